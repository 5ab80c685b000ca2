/-
  Lemmas on automata, the program's calls and the given ones, put together of 15 texts (part 7).
-/
import Derived.Test.YtdcofdndkpmpaaaQ6
import Derived.Test.YtdcofdndkpmpaaaQ5
import Derived.Test.YtdcofdndkpmpaaaQ4
import Derived.Test.YtdcofdndkpmpaaaRows
import Derived.ProofKit
import Derived.OpenShut
import Derived.ShutString
import Derived.ChangeOld
import Derived.SizedLaws
import Derived.JoinedCond
import Derived.SliceStrings
import Derived.Deep.Strs
import Derived.Test.YtdcofdndkpmpaaaQ2
/-
  From where bytes lead into a class.
-/
namespace Go.Proofs.Ytdcofdndkpmpaaa
open Go.RowKit
namespace Au
theorem backRow_len (l : List Arc) (t i : Nat) : (backRow l t i).length ≤ l.length := by
  unfold backRow
  rw [List.length_map]
  exact List.length_filter_le ..
theorem back_len {d : List St} (hr : ∀ i (h : i < d.length), Row d.length 256 d[i].arcs) (t : Nat) : (back d t).length ≤ d.length * 256 := by
  unfold back
  rw [List.flatMap_def]
  have := flat_le (L := (List.range d.length).map fun i => backRow (arcsOf d i) t i) (m := 256) fun l hl => by
    obtain ⟨i, _, rfl⟩ := List.mem_map.1 hl
    have h1 := backRow_len (arcsOf d i) t i
    have h2 := row_few (arcsOf_row hr i)
    omega
  simpa using this
theorem row_each {n : Nat} {c : Int} {l : List Arc} (h : Row n c l) : ∀ a ∈ l, 0 ≤ a.lo ∧ a.lo ≤ a.hi ∧ a.hi < c ∧ 0 ≤ a.to ∧ a.to < n := fun a ha => by
  obtain ⟨k, hk, rfl⟩ := List.getElem_of_mem ha
  exact h.1 k hk
theorem back_byte {d : List St} (hr : ∀ i (h : i < d.length), Row d.length 256 d[i].arcs) (t : Nat) : ∀ a ∈ back d t, byteArc a := fun a ha => by
  unfold back at ha
  obtain ⟨i, _, hb⟩ := List.mem_flatMap.1 ha
  unfold backRow at hb
  obtain ⟨x, hx, rfl⟩ := List.mem_map.1 hb
  have := row_each (arcsOf_row hr i) x (List.mem_filter.1 hx).1
  unfold byteArc
  dsimp only
  omega
end Au
/-- The rows picked so far. -/
structure Wr8 (F : Nat → Prop) (w0 w : World) (κ : Nat → Nat) (v : Value) (X : List Value) (L : List (List Au.Arc)) : Prop where
  row : RowC κ 1 w 37 1 v X.length X
  len : X.length = L.length
  each : ∀ j (h : j < X.length) (h2 : j < L.length), ArcS F w0 X[j] L[j]
  below : Below w0.heap.size w0 w
  lo : LoB κ w w0.heap.size
theorem Wr8.start (F : Nat → Prop) (w0 : World) (m : Nat) (hm : m ≤ 1099511627776) : Wr8 F w0 (w0.alloc (.cells (madeCells #[.slice none 0 0] m) 37)) (fun k => if k = w0.heap.size then 1 else 0) (.slice (some ⟨w0.heap.size, 0, none⟩) 0 m) [] [] := by
  refine ⟨⟨⟨rfl, .inr ⟨w0.heap.size, m, _, rfl, Nat.zero_le _, Go.Deep.blk_alloc_new _ _, Nat.zero_le _, by unfold maxLen; omega, ?_, by simp⟩⟩, fun b hb => ?_⟩, rfl, fun j h => by simp at h, (Below.refl _ _).alloc (Nat.le_refl _) _, fun k _ hc => ?_⟩
  · simp [madeCells]
  · simp [Value.ownBlock] at hb
    subst hb
    exact if_pos rfl
  · change (if _ then _ else _) ≠ 0 at hc
    split at hc
    · omega
    · exact absurd rfl hc
theorem Wr8.push {F : Nat → Prop} {w0 w w' : World} {g cp : Nat} {κ : Nat → Nat} {v va : Value} {X : List Value} {L : List (List Au.Arc)} {l : List Au.Arc} (h : Wr8 F w0 w κ v X L) (ha : ArcS F w0 va l)
    (hr : RowC (paint κ w.heap.size 1) 1 w' 37 1 (.slice (some ⟨g, 0, none⟩) (X.length + 1) cp) (X.length + 1) (X ++ [va])) (hs : Step κ 1 w w' (paint κ w.heap.size 1)) : Wr8 F w0 w' (paint κ w.heap.size 1) (.slice (some ⟨g, 0, none⟩) (X.length + 1) cp) (X ++ [va]) (L ++ [l]) := by
  refine ⟨by rw [List.length_append]; exact hr, by simp [h.len], fun j hj hj2 => ?_, hs.below h.lo (by decide) h.below h.below.size, h.lo.step hs h.below.size⟩
  by_cases e : j < X.length
  · rw [List.getElem_append_left e, List.getElem_append_left (by rw [← h.len]; exact e)]
    exact h.each j e (by rw [← h.len]; exact e)
  · have e' : j = X.length := by simp at hj; omega
    subst e'
    have := h.len
    simp only [List.getElem_append_right (Nat.le_refl _), Nat.sub_self, List.getElem_cons_zero]
    simp only [this, List.getElem_append_right (Nat.le_refl _), Nat.sub_self, List.getElem_cons_zero]
    exact ha
theorem Wr8.rows {F : Nat → Prop} {w0 w : World} {κ : Nat → Nat} {v : Value} {X : List Value} {L : List (List Au.Arc)} (h : Wr8 F w0 w κ v X L) : RowsS (fun g => F g ∨ w0.heap.size ≤ g) w v L := by
  obtain ⟨a, cap, h1, h2, h3, h4⟩ := h.row.form
  rw [h.len] at h1 h2 h4
  refine ⟨a, cap, h1, h2, h3, fun h0 => ?_⟩
  obtain ⟨g, h5, h6, h7, _, h8⟩ := h4 h0
  refine ⟨g, 0, h5, h6, .inr (h.lo g h6 (by rw [h7]; decide)), fun j hj => ?_⟩
  have hjX : j < X.length := by rw [h.len]; exact hj
  refine ⟨X[j], by rw [Nat.zero_add]; exact h8 j _ (List.getElem?_eq_getElem hjX), ?_⟩
  exact ((h.each j hjX hj).below h.below).wide fun g _ hg => .inl hg

set_option maxRecDepth 100000 in
set_option maxHeartbeats 4000000 in
theorem whence_any (d : List Au.St) (w : World) (p : Nat) (κ : Nat → Nat) (C : Au.Cls) (c : Nat) (F : Nat → Prop) (vb : Value) (n : Nat) (hd : d.length = n) (hf : Au.Fits d) (h : ClsM n w p κ C) (hc : c < C.mem.length) (hrow : ∀ x ∈ C.row c, x < n) (hnd : (C.row c).Nodup)
    (hb : RowsS F w vb ((List.range n).map (Au.back d))) (hm : C.mem.length ≤ 1099511627776) :
    Calls Try.prog 66 #[.pointer (some ⟨p, 0, none⟩), .int .i64 (c : Int), vb] w fun e w' => ∃ u S, e = .returned u ∧ Au.Cut ((C.row c).flatMap (Au.back d)) 0 S ∧ StrS (fun g => w.heap.size ≤ g) w' u S ∧ Below w.heap.size w w' := by
  have hn2 : n ≤ 20000 := by have := hf.top; omega
  have hl : (C.row c).length ≤ n := by
    have := hnd.length_le_of_subset (l₂ := List.range n) fun x hx => List.mem_range.2 (hrow x hx)
    simpa using this
  obtain ⟨X, bo, ba, vm, vw, vq, hS⟩ := h
  obtain ⟨b0, b1, b2, b3, b4, b5⟩ := hS.cells
  have hcX : c < X.length := by rw [hS.lenX]; exact hc
  obtain ⟨am, cm, rfl, _, _, hm4⟩ := hS.mem.form
  obtain ⟨gm, rfl, _, _, _, hmc⟩ := hm4 (by omega)
  obtain ⟨ar, cp, hx, _, _, hr4⟩ := (hS.each _ hcX).form
  have r3 := hmc _ X[c] (List.getElem?_eq_getElem hcX)
  rw [hx] at r3
  have j3 : (c : Int) < (X.length : Int) := by omega
  obtain ⟨ln, hln⟩ : ∃ ln, (C.row c).length = ln := ⟨_, rfl⟩
  have HLN := Lib.hid hln
  rw [hln] at r3 hl hr4
  have HR : Hid (∀ W, Below w.heap.size w W → 0 < ln → ∃ g, ar = some ⟨g, 0, none⟩ ∧ ∀ j (hj : j < (C.row c).length), W.cell? ⟨g, j, none⟩ = some (.int .i64 ((C.row c)[j] : Int))) := fun W hW h0 => by
    obtain ⟨g, rfl, hg, _, _, hcc⟩ := hr4 h0
    exact ⟨g, rfl, fun j hj => (cell_same (hW.block g hg)).trans (hcc j _ (by simp [natsV, List.getElem?_eq_getElem hj]))⟩
  have hmk := run_make_rows ln (by omega)
  obtain ⟨ab, cb, rfl, _, _, hbc⟩ := hb
  rw [List.length_map, List.length_range]
  have HB : Hid (∀ W, Below w.heap.size w W → 0 < n → ∃ g o, ab = some ⟨g, o, none⟩ ∧ ∀ t, t < n → ∃ va, W.cell? ⟨g, o + t, none⟩ = some va ∧ ArcS F w va (Au.back d t)) := fun W hW h0 => by
    obtain ⟨g, o, rfl, hg, _, hcc⟩ := hbc (by simpa using h0)
    refine ⟨g, o, rfl, fun t ht => ?_⟩
    obtain ⟨va, q1, q2⟩ := hcc t (by simpa using ht)
    rw [List.getElem_map, List.getElem_range] at q2
    exact ⟨va, (cell_same (hW.block g hg)).trans q1, q2⟩
  have HSTR : Hid (∀ W v, RowsS (fun g => F g ∨ w.heap.size ≤ g) W v ((C.row c).map (Au.back d)) → Calls Try.prog 51 #[v] W fun e w' => ∃ u Z, e = .returned u ∧ Au.Cut ((C.row c).flatMap (Au.back d)) 0 Z ∧ StrS (fun g => W.heap.size ≤ g) w' u Z ∧ Below W.heap.size W w') := fun W v h => by
    have := stretches_any _ W v _ h (fun l hl a ha => by
      obtain ⟨t, _, rfl⟩ := List.mem_map.1 hl
      exact Au.back_byte hf.row t a ha) (by
      have := Au.flat_le (L := (C.row c).map (Au.back d)) (m := d.length * 256) fun l hl => by
        obtain ⟨t, _, rfl⟩ := List.mem_map.1 hl
        exact Au.back_len hf.row t
      rw [List.length_map, hln, hd] at this
      have h2 : ln * (n * 256) ≤ 20000 * (20000 * 256) := Nat.mul_le_mul (by omega) (Nat.mul_le_mul_right _ hn2)
      omega)
    rw [List.flatMap_def]
    exact this
  have HW0 : Hid (Wr8 F w (w.alloc (.cells (madeCells #[.slice none 0 0] ln) 37)) (fun k => if k = w.heap.size then 1 else 0) (.slice (some ⟨w.heap.size, 0, none⟩) 0 ln) [] ((C.row c).map (Au.back d) |>.take 0)) := by
    rw [List.take_zero]
    exact Wr8.start F w ln (by omega)
  have hbA : Below w.heap.size w (w.alloc (.cells (madeCells #[.slice none 0 0] ln) 37)) := (Below.refl _ _).alloc (Nat.le_refl _) _
  have d2 := (cell_same (a := ⟨p, 2, none⟩) (hbA.block p hS.plt)).trans b2
  have d3 := (cell_same (a := ⟨gm, c, none⟩) (hbA.block gm (by assumption))).trans r3
  clear hbA hmc hm4 hx hS hr4 hbc b0 b1 b3 b4 b5 hc hm hnd hln
  go_enter Try.func66, Try.ntmps66
  go_wp2_with fail
  generalize w.alloc (.cells (madeCells #[.slice none 0 0] ln) 37) = w1 at *
  go_loopg [7, 27] ln (fun gg v7 v27 wx => ∃ (k : Nat) (X : List Value) (κ : Nat → Nat), k ≤ ln ∧ gg = ln - k ∧ v27 = .int .i64 k ∧ Hid (X.length = k) ∧ Hid (Wr8 F w wx κ v7 X (((C.row c).map (Au.back d)).take k)))
  case atStart => exact ⟨0, [], _, Nat.zero_le _, rfl, rfl, rfl, HW0⟩
  case round =>
    clear HW0
    obtain ⟨k, X, κ, hk, rfl, rfl, hXk, hR⟩ := hrel
    by_cases hkn : k < ln
    · have j1 : (k : Int) < (ln : Int) := by omega
      have hkl : k < (C.row c).length := by rw [HLN.out]; exact hkn
      obtain ⟨gr, rfl, hrc⟩ := HR.out wr hR.out.below (by omega)
      have r1 := hrc k hkl
      have hxn := hrow _ (List.getElem_mem hkl)
      obtain ⟨gb, ob, rfl, hbc⟩ := HB.out wr hR.out.below (by omega)
      obtain ⟨va, r2, hA⟩ := hbc _ hxn
      have HA := Lib.hid hA
      have hnx : Hid (((C.row c).map (Au.back d)).take (k + 1) = ((C.row c).map (Au.back d)).take k ++ [Au.back d (C.row c)[k]]) := by
        show _ = _
        rw [List.take_succ_eq_append_getElem (by rw [List.length_map]; exact hkl), List.getElem_map]
      obtain ⟨aa, ca, rfl, _⟩ := hA
      have HPU := Lib.hid (fun g cp w3 h1 h2 => hR.out.push (g := g) (cp := cp) (w' := w3) HA.out h1 h2)
      have hrw := Lib.hid hR.out.row
      rw [hXk.out] at HPU hrw
      have hX1 : Hid (∀ u : Value, (X ++ [u]).length = k + 1) := fun u => by rw [List.length_append, hXk.out]; rfl
      have j2 : ((C.row c)[k] : Int) < (n : Int) := by omega
      generalize (C.row c)[k] = x at *
      generalize Au.back d x = la at *
      clear hR hrc hbc
      obtain ⟨ii, hi, hz0, hz1, hz2⟩ := info_parts Try.infoAs
      go_wp2_with (at_builtin; refine wpList_pushC rfl _ _ 94 37 rfl ii _ 1 24 Try.underlying94 hi hz0 hz1 hz2 rfl (by decide) κ 1 _ k X rfl hrw.out [.slice aa la.length ca] rfl (one_of rfl) rfl (by omega) (by omega) ?_; intro g3 cp3 w4 hr4 hs4; have HQ := Lib.hid (HPU.out g3 cp3 w4 hr4 hs4); clear hr4 hs4)
      go_roundg (ln - (k + 1))
      case rel => exact ⟨k + 1, _, _, by omega, rfl, by go_num, hX1.out _, by rw [hnx.out]; exact HQ.out⟩
      case measure => omega
    · obtain rfl : k = ln := by omega
      have hfull : ((C.row c).map (Au.back d)).take k = (C.row c).map (Au.back d) := List.take_of_length_le (by rw [List.length_map, HLN.out]; exact Nat.le_refl _)
      rw [hfull] at hR
      have HS5 := Lib.hid (HSTR.out wr _ hR.out.rows)
      have HBr := Lib.hid hR.out.below
      obtain ⟨asl, csl, hvs, _⟩ := hR.out.row.form
      subst hvs
      rw [hXk.out] at HS5 ⊢
      clear hR hfull
      go_wp2_with (go_at_call 51; refine HS5.out.mono ?_; rintro e w5 ⟨u, Z, rfl, hcut, hstr, hb5⟩; have HE := Lib.hid (And.intro hcut (And.intro (hstr.wide (G := fun g => w.heap.size ≤ g) fun g _ hg => by have := HBr.out.size; omega) (chain HBr.out hb5))); clear hcut hstr hb5)
      go_ret
      exact ⟨_, Z, rfl, HE.out⟩
end Go.Proofs.Ytdcofdndkpmpaaa

/-
  The program's classesOf, plainly: how one class's stretches split the others.
-/
namespace Go.Proofs.Ytdcofdndkpmpaaa
open Go.RowKit
namespace Au
def inS (S : List Strch) (k a : Nat) : Prop := ∃ j, k ≤ j ∧ ∃ h : j < S.length, S[j].lo ≤ a ∧ a ≤ S[j].hi
def toL (g : Strch) : List Nat := g.to.map Int.toNat
/-- The first k stretches have split. -/
structure HW (d : List St) (C0 : Cls) (c : Nat) (S : List Strch) (k : Nat) (C : Cls) : Prop where
  inv : HInv d (fun x => C0.cls x = (c : Int)) (inS S k) C
  meas : C.wq.length + C0.mem.length + 1 = C0.wq.length + C.mem.length
theorem cls_some (C : Cls) (x : Option Nat) (c : Nat) : C.cls x = (c : Int) ↔ ∃ t, x = some t ∧ C.of t = (c : Int) := by
  cases x with
  | none => 
    constructor
    · intro h
      change (-1 : Int) = _ at h
      omega
    · rintro ⟨t, h, _⟩
      cases h
  | some t => exact ⟨fun h => ⟨t, rfl, h⟩, fun ⟨s, e, h⟩ => by cases e; exact h⟩
section
variable {d : List St} {O : Option Nat → Prop} {C0 : Cls} {c : Nat} {S : List Strch}
theorem hits_iff (h0 : HInv d O (fun _ => False) C0) (b s : Nat) (hs : s < d.length) : (s : Int) ∈ hits ((C0.row c).flatMap (back d)) b ↔ C0.cls ((ofL d).step s b) = (c : Int) := by
  rw [mem_whence h0.rows, cls_some]
  constructor
  · rintro ⟨i, e, _, t, ht, hst⟩
    obtain rfl : i = s := by omega
    exact ⟨t, hst, (h0.ok.mem_row ht).2⟩
  · rintro ⟨t, hst, hc⟩
    exact ⟨s, rfl, hs, t, h0.ok.row_mem (ofL_in h0.rows hst) hc, hst⟩
theorem HW.start (h0 : HInv d O (fun _ => False) C0) {q : List Nat} (hq : C0.wq = q ++ [c]) (hS : Cut ((C0.row c).flatMap (back d)) 0 S) : HW d C0 c S 0 (C0.pop q c) := by
  refine ⟨h0.pop q c hq _ fun a s hs hR e => ?_, ?_⟩
  · have h1 := (hits_iff h0 a s hs).2 e
    obtain ⟨t, hst, _⟩ := (cls_some C0 _ c).1 e
    have ha : a < 256 := by
      apply Classical.byContradiction
      intro hn
      rw [ofL_top h0.rows s a (by omega)] at hst
      cases hst
    rw [hS.none a (Nat.zero_le _) ha fun g hg hgg => ?_] at h1
    · cases h1
    · obtain ⟨j, hj, rfl⟩ := List.getElem_of_mem hg
      exact hR ⟨j, Nat.zero_le _, hj, hgg⟩
  · show q.length + C0.mem.length + 1 = C0.wq.length + C0.mem.length
    rw [hq, List.length_append]
    simp
    omega
theorem HW.list (h0 : HInv d O (fun _ => False) C0) (hS : Cut ((C0.row c).flatMap (back d)) 0 S) {k : Nat} {C : Cls} {R : Nat → Prop} (h : HInv d (fun x => C0.cls x = (c : Int)) R C) (hk : k < S.length) :
    (toL S[k]).map (fun (i : Nat) => (i : Int)) = S[k].to ∧ (toL S[k]).Nodup ∧ (∀ s ∈ toL S[k], s < d.length ∧ 0 ≤ C.of s) ∧ (∀ s t, s < d.length → t < d.length → Eqv (ofL d) (ofL d) s t → (s ∈ toL S[k] ↔ t ∈ toL S[k])) ∧
    ∀ s a, s < d.length → S[k].lo ≤ a → a ≤ S[k].hi → (s ∈ toL S[k] ↔ C0.cls ((ofL d).step s a) = (c : Int)) := by
  obtain ⟨_, e1, e2, e3, e4⟩ := hS.each _ (List.getElem_mem hk)
  have hto : ∀ x ∈ S[k].to, ∃ i : Nat, x = (i : Int) ∧ i < d.length ∧ ∃ t ∈ C0.row c, (ofL d).step i S[k].lo = some t := fun x hx => by
    rw [← e4 _ (Nat.le_refl _) e1] at hx
    exact (mem_whence h0.rows _ _ x).1 hx
  have hmem : ∀ s, s ∈ toL S[k] ↔ (s : Int) ∈ S[k].to := fun s => by
    unfold toL
    rw [List.mem_map]
    constructor
    · rintro ⟨x, hx, rfl⟩
      obtain ⟨i, rfl, _⟩ := hto x hx
      rw [Int.toNat_natCast]
      exact hx
    · intro hx
      exact ⟨_, hx, Int.toNat_natCast s⟩
  have hiff : ∀ s a, s < d.length → S[k].lo ≤ a → a ≤ S[k].hi → (s ∈ toL S[k] ↔ C0.cls ((ofL d).step s a) = (c : Int)) := fun s a hs h1 h2 => by
    rw [hmem, ← e4 a h1 h2]
    exact hits_iff h0 a s hs
  refine ⟨?_, ?_, fun s hs => ?_, fun s t hs ht he => ?_, hiff⟩
  · unfold toL
    rw [List.map_map]
    conv => rhs; rw [← List.map_id S[k].to]
    refine List.map_congr_left fun x hx => ?_
    obtain ⟨i, rfl, _⟩ := hto x hx
    simp
  · have hnd : S[k].to.Nodup := by
      rw [← e4 _ (Nat.le_refl _) e1]
      exact whence_nodup h0.rows _ (h0.ok.nodup c) _
    unfold toL
    unfold List.Nodup at *
    rw [List.pairwise_map]
    refine hnd.imp_of_mem fun {x y} hx hy hxy => ?_
    obtain ⟨i, rfl, _⟩ := hto x hx
    obtain ⟨j, rfl, _⟩ := hto y hy
    simp only [Int.toNat_natCast]
    omega
  · obtain ⟨i, e, hi, t, ht, hst⟩ := hto _ ((hmem s).1 hs)
    obtain rfl : s = i := by omega
    refine ⟨hi, ?_⟩
    obtain ⟨htn, htc⟩ := h0.ok.mem_row ht
    have htd : ¬ Dead (ofL d) (some t) := fun hd => by
      have := (h0.dead t htn).2 hd
      omega
    have hsd : ¬ Dead (ofL d) (some s) := fun hd => htd fun w => by
      have := hd (S[k].lo :: w)
      rw [acc_cons, hst] at this
      exact this
    rcases h.lt hi with h1 | h1
    · exact absurd ((h.dead s hi).1 h1) hsd
    · exact h1.1
  · rw [hiff s _ hs (Nat.le_refl _) e1, hiff t _ ht (Nat.le_refl _) e1]
    exact h0.lead_eqv c _ s t he
theorem HW.next (h0 : HInv d O (fun _ => False) C0) (hS : Cut ((C0.row c).flatMap (back d)) 0 S) {k : Nat} {C : Cls} (h : HW d C0 c S k C) (hk : k < S.length) : HW d C0 c S (k + 1) (splitBy C (toL S[k])) := by
  obtain ⟨_, l2, l3, l4, l5⟩ := HW.list h0 hS h.inv hk
  obtain ⟨s1, s2, s3⟩ := h.inv.splitBy l2 l3 l4
  refine ⟨s1.next (fun _ => Iff.rfl) fun a ha hna s t hs ht e he => ?_, ?_⟩
  · obtain ⟨j, hj, hjl, hja⟩ := ha
    have hjk : j = k := by
      apply Classical.byContradiction
      intro hne
      exact hna ⟨j, by omega, hjl, hja⟩
    subst hjk
    have := s3 s t hs ht e he
    rw [l5 s a hs hja.1 hja.2, l5 t a ht hja.1 hja.2] at this
    exact this
  · have := h.meas
    omega
theorem HW.done {k : Nat} {C : Cls} (h : HW d C0 c S k C) (hk : S.length ≤ k) : HInv d (fun x => C0.cls x = (c : Int)) (fun _ => False) C :=
  h.inv.next (fun _ => Iff.rfl) fun a ⟨j, hj, hjl, _⟩ _ => by omega
end
noncomputable def othTo (d : List St) (i : Nat) : List Nat := (List.range i).filter (fun i => !(ofL d).fin i && aliveB d i)
theorem othTo_all (d : List St) : othTo d d.length = others d := rfl
def finTo (d : List St) (i : Nat) : List Nat := (List.range i).filter (fun i => (ofL d).fin i)
theorem finTo_all (d : List St) : finTo d d.length = finals d := rfl
theorem finTo_next (d : List St) (i : Nat) : finTo d (i + 1) = if (ofL d).fin i = true then finTo d i ++ [i] else finTo d i := finals_next d i
theorem othTo_next (d : List St) (i : Nat) : othTo d (i + 1) = if (ofL d).fin i = false ∧ aliveB d i = true then othTo d i ++ [i] else othTo d i := by
  unfold othTo
  rw [List.range_succ, List.filter_append]
  cases h1 : (ofL d).fin i <;> cases h2 : aliveB d i <;> simp [h1, h2]
theorem finTo_len (d : List St) (i : Nat) : (finTo d i).length ≤ i := by
  have := List.length_filter_le (fun i => (ofL d).fin i) (List.range i)
  rw [List.length_range] at this
  exact this
theorem othTo_len (d : List St) (i : Nat) : (othTo d i).length ≤ i := by
  have := List.length_filter_le (fun i => !(ofL d).fin i && aliveB d i) (List.range i)
  rw [List.length_range] at this
  exact this
end Au
/-- What the call's beginning left lies as it was; its blocks bear no colour. -/
structure Base (w0 w : World) (κ : Nat → Nat) : Prop where
  below : Below w0.heap.size w0 w
  old : ∀ k, k < w0.heap.size → κ k = 0
theorem Base.pst {w0 w w' : World} {κ κ' : Nat → Nat} (h : Base w0 w κ) (hs : Pst O0 κ w w' κ') : Base w0 w' κ' :=
  ⟨h.below.trans ⟨hs.os, hs.tape, hs.output, hs.size, fun k hk => hs.block k (Nat.lt_of_lt_of_le hk h.below.size) (h.old k hk)⟩, fun k hk => (hs.col k (Nat.lt_of_lt_of_le hk h.below.size) (h.old k hk)).trans (h.old k hk)⟩
theorem Pst.of_below {K : Nat → Prop} {κ : Nat → Nat} {c : Nat} {w w' : World} (h : Below w.heap.size w w') : Pst K κ w w' (paint κ w.heap.size c) :=
  ⟨h.os, h.tape, h.output, h.size, fun k hk _ => h.block k hk, fun _ hk _ => paint_old _ _ _ _ hk⟩
theorem Step.refl (κ : Nat → Nat) (c : Nat) (w : World) : Step κ c w w κ := ⟨rfl, rfl, rfl, Nat.le_refl _, fun _ _ _ => rfl, fun _ _ => rfl⟩
theorem Pst.zero9 {κ κ1 : Nat → Nat} {w w1 : World} (h : Pst E9 κ w w1 κ1) : Pst O0 κ w w1 κ1 := h.weak.zero
/-- While states are looked at: -1 so far; two lists. -/
structure Cl1 (d : List Au.St) (w0 w : World) (κ : Nat → Nat) (n p bo ba i k : Nat) (vf vo : Value) : Prop where
  cls : ClsS n w p κ { Au.Cls.none with of := fun j => if j < k then -1 else 0 } [] bo ba (.slice none 0 0) (.slice none 0 0) (.slice none 0 0)
  fin : RowC κ 2 w 3 1 vf (Au.finTo d i).length (natsV (Au.finTo d i))
  oth : RowC κ 4 w 3 1 vo (Au.othTo d i).length (natsV (Au.othTo d i))
  base : Base w0 w κ
section
variable {d : List Au.St} {w0 w w' : World} {κ κ' : Nat → Nat} {n p bo ba i k : Nat} {vf vo : Value}
theorem Cl1.zero (h : Cl1 d w0 w κ n p bo ba i k vf vo) (hb : Below w.heap.size w w') : Cl1 d w0 w' (paint κ w.heap.size 0) n p bo ba i k vf vo :=
  ⟨h.cls.step (Step.of_below hb) rfl, h.fin.step (Step.of_below hb) (by decide), h.oth.step (Step.of_below hb) (by decide), h.base.pst (Pst.of_below hb)⟩
theorem Cl1.mark (h : Cl1 d w0 w κ n p bo ba i i vf vo) (hi : i < n) : (w.frozen? ⟨bo, i, none⟩ = false ∧ w.cell? ⟨bo, i, none⟩ = some (.int .i64 0)) ∧ Cl1 d w0 (w.setCell ⟨bo, i, none⟩ (.int .i64 (-1))) κ n p bo ba i (i + 1) vf vo := by
  obtain ⟨⟨f1, c1⟩, h1, p1⟩ := h.cls.setOf i (-1) hi
  refine ⟨⟨f1, by simpa using c1⟩, ?_, p1.row h.fin (.inl rfl), p1.row h.oth (.inl rfl), h.base.pst p1.zero9⟩
  have e : (fun j => if j = i then (-1 : Int) else (if j < i then (-1 : Int) else 0)) = fun j => if j < i + 1 then (-1 : Int) else 0 := funext fun j => by
    by_cases e : j = i
    · subst e; rw [if_pos rfl, if_pos (by omega)]
    · rw [if_neg e]
      by_cases h2 : j < i
      · rw [if_pos h2, if_pos (by omega)]
      · rw [if_neg h2, if_neg (by omega)]
  have := h1
  dsimp only at this
  rw [e] at this
  exact this
theorem Cl1.skip (h : Cl1 d w0 w κ n p bo ba i (i + 1) vf vo) (hf : (Au.ofL d).fin i = false) (ha : Au.aliveB d i = false) : Cl1 d w0 w κ n p bo ba (i + 1) (i + 1) vf vo := by
  have e1 : Au.finTo d (i + 1) = Au.finTo d i := by rw [Au.finTo_next, if_neg (by rw [hf]; decide)]
  have e2 : Au.othTo d (i + 1) = Au.othTo d i := by rw [Au.othTo_next, if_neg (by rw [ha]; simp)]
  exact ⟨h.cls, by rw [e1]; exact h.fin, by rw [e2]; exact h.oth, h.base⟩
theorem Cl1.addF {g m cp : Nat} (h : Cl1 d w0 w κ n p bo ba i (i + 1) vf vo) (hf : (Au.ofL d).fin i = true) (hm : m = (Au.finTo d i).length + 1)
    (hr : RowC κ' 2 w' 3 1 (.slice (some ⟨g, 0, none⟩) m cp) m (natsV (Au.finTo d i) ++ [.int .i64 (i : Int)])) (hs : Step κ 2 w w' κ') :
    Cl1 d w0 w' κ' n p bo ba (i + 1) (i + 1) (.slice (some ⟨g, 0, none⟩) m cp) vo ∧ m = (Au.finTo d (i + 1)).length := by
  have e1 : Au.finTo d (i + 1) = Au.finTo d i ++ [i] := by rw [Au.finTo_next, if_pos hf]
  have e2 : Au.othTo d (i + 1) = Au.othTo d i := by rw [Au.othTo_next, if_neg (by rw [hf]; simp)]
  have e3 : (Au.finTo d i ++ [i]).length = m := by rw [List.length_append]; exact hm.symm
  refine ⟨⟨h.cls.step hs rfl, ?_, by rw [e2]; exact h.oth.step hs (by decide), h.base.pst (Pst.of_step hs (by unfold O0; decide))⟩, by rw [e1, e3]⟩
  rw [e1, e3, ← natsV_snoc]
  exact hr
theorem Cl1.addO {g m cp : Nat} (h : Cl1 d w0 w κ n p bo ba i (i + 1) vf vo) (hf : (Au.ofL d).fin i = false) (ha : Au.aliveB d i = true) (hm : m = (Au.othTo d i).length + 1)
    (hr : RowC κ' 4 w' 3 1 (.slice (some ⟨g, 0, none⟩) m cp) m (natsV (Au.othTo d i) ++ [.int .i64 (i : Int)])) (hs : Step κ 4 w w' κ') :
    Cl1 d w0 w' κ' n p bo ba (i + 1) (i + 1) vf (.slice (some ⟨g, 0, none⟩) m cp) ∧ m = (Au.othTo d (i + 1)).length := by
  have e1 : Au.finTo d (i + 1) = Au.finTo d i := by rw [Au.finTo_next, if_neg (by rw [hf]; decide)]
  have e2 : Au.othTo d (i + 1) = Au.othTo d i ++ [i] := by rw [Au.othTo_next, if_pos ⟨hf, ha⟩]
  have e3 : (Au.othTo d i ++ [i]).length = m := by rw [List.length_append]; exact hm.symm
  refine ⟨⟨h.cls.step hs rfl, by rw [e1]; exact h.fin.step hs (by decide), ?_, h.base.pst (Pst.of_step hs (by unfold O0; decide))⟩, by rw [e2, e3]⟩
  rw [e2, e3, ← natsV_snoc]
  exact hr
/-- Its beginning: three new blocks. -/
theorem cl1_start (d : List Au.St) (w : World) (n bo ba : Nat) (h : (bo = w.heap.size ∧ ba = w.heap.size + 1) ∨ (bo = w.heap.size + 1 ∧ ba = w.heap.size)) :
    Cl1 d w (((w.alloc (.cells (madeCells #[.int .i64 0] n) 3)).alloc (.cells (madeCells #[.int .i64 0] n) 3)).alloc (.cells #[.slice (some ⟨bo, 0, none⟩) n n, .slice (some ⟨ba, 0, none⟩) n n, .slice none 0 0, .slice none 0 0, .slice none 0 0] 120)).drew
      (fun k => if k = bo then 1 else if k = ba then 3 else if k = w.heap.size + 2 then 5 else 0) n (w.heap.size + 2) bo ba 0 0 (.slice none 0 0) (.slice none 0 0) := by
  have r1 : (w.alloc (.cells (madeCells #[.int .i64 0] n) 3)).rowIs w.heap.size 3 n (fun _ => .int .i64 0) := World.rowIs_made w _ n _
  have r2 : ((w.alloc (.cells (madeCells #[.int .i64 0] n) 3)).alloc (.cells (madeCells #[.int .i64 0] n) 3)).rowIs (w.heap.size + 1) 3 n (fun _ => .int .i64 0) := by
    have := World.rowIs_made (w.alloc (.cells (madeCells #[.int .i64 0] n) 3)) (.int .i64 0) n 3
    simpa using this
  have r1' := ((r1.alloc (.cells (madeCells #[.int .i64 0] n) 3)).alloc (.cells #[.slice (some ⟨bo, 0, none⟩) n n, .slice (some ⟨ba, 0, none⟩) n n, .slice none 0 0, .slice none 0 0, .slice none 0 0] 120)).drew
  have r2' := (r2.alloc (.cells #[.slice (some ⟨bo, 0, none⟩) n n, .slice (some ⟨ba, 0, none⟩) n n, .slice none 0 0, .slice none 0 0, .slice none 0 0] 120)).drew
  have hbo : ((((w.alloc (.cells (madeCells #[.int .i64 0] n) 3)).alloc (.cells (madeCells #[.int .i64 0] n) 3)).alloc (.cells #[.slice (some ⟨bo, 0, none⟩) n n, .slice (some ⟨ba, 0, none⟩) n n, .slice none 0 0, .slice none 0 0, .slice none 0 0] 120)).drew).rowIs bo 3 n (fun _ => .int .i64 0) := by
    rcases h with ⟨rfl, _⟩ | ⟨rfl, _⟩
    · exact r1'
    · exact r2'
  have hba : ((((w.alloc (.cells (madeCells #[.int .i64 0] n) 3)).alloc (.cells (madeCells #[.int .i64 0] n) 3)).alloc (.cells #[.slice (some ⟨bo, 0, none⟩) n n, .slice (some ⟨ba, 0, none⟩) n n, .slice none 0 0, .slice none 0 0, .slice none 0 0] 120)).drew).rowIs ba 3 n (fun _ => .int .i64 0) := by
    rcases h with ⟨_, rfl⟩ | ⟨_, rfl⟩
    · exact r2'
    · exact r1'
  have hp := Go.Deep.blk_alloc_new ((w.alloc (.cells (madeCells #[.int .i64 0] n) 3)).alloc (.cells (madeCells #[.int .i64 0] n) 3)) (.cells #[.slice (some ⟨bo, 0, none⟩) n n, .slice (some ⟨ba, 0, none⟩) n n, .slice none 0 0, .slice none 0 0, .slice none 0 0] 120)
  have hsz : ((w.alloc (.cells (madeCells #[.int .i64 0] n) 3)).alloc (.cells (madeCells #[.int .i64 0] n) 3)).heap.size = w.heap.size + 2 := by simp
  rw [hsz] at hp
  refine ⟨⟨hp, ?_, hbo, if_pos rfl, hba, ?_, RowC.nil _ _ _ _ _, rfl, fun c hc => by simp at hc, RowC.nil _ _ _ _ _, RowC.nil _ _ _ _ _⟩, RowC.nil _ _ _ _ _, RowC.nil _ _ _ _ _, ?_, fun k hk => ?_⟩
  · show (if _ then _ else _) = _
    rw [if_neg (by omega), if_neg (by omega), if_pos rfl]
  · show (if _ then _ else _) = _
    rw [if_neg (by omega), if_pos rfl]
  · exact ((((Below.refl _ _).alloc (Nat.le_refl _) _).alloc (by simp) _).alloc (by simp; omega) _).drew
  · show (if _ then _ else _) = _
    rw [if_neg (by omega), if_neg (by omega), if_neg (by omega)]
end
end Go.Proofs.Ytdcofdndkpmpaaa

/-
  The program's classesOf: the walk.
-/
namespace Go.Proofs.Ytdcofdndkpmpaaa
open Go.RowKit
theorem StrS.pst {w w' : World} {κ κ' : Nat → Nat} {u : Value} {S : List Au.Strch} (h : StrS (fun g => κ g = 0) w u S) (hs : Pst O0 κ w w' κ') : StrS (fun g => κ' g = 0) w' u S := by
  have h1 := h.wide (G := fun g => κ' g = 0 ∧ κ g = 0) fun g hg hk => ⟨(hs.col g hg hk).trans hk, hk⟩
  exact (h1.keep hs.size fun g hg hl => hs.block g hl hg.2).wide fun g _ hg => hg.1
/-- Classes that are still being split. -/
structure Cls2 (d : List Au.St) (w0 w : World) (κ : Nat → Nat) (n p : Nat) (C : Au.Cls) (O : Option Nat → Prop) : Prop where
  cls : ClsM n w p κ C
  inv : Au.HInv d O (fun _ => False) C
  base : Base w0 w κ
theorem ClsS.pop {n p : Nat} {w : World} {κ : Nat → Nat} {C : Au.Cls} {X : List Value} {bo ba gw m cw gq cq c ql : Nat} {q : List Nat} {vm : Value} (h : ClsS n w p κ C X bo ba vm (.slice (some ⟨gw, 0, none⟩) m cw) (.slice (some ⟨gq, 0, none⟩) (ql + 1) cq)) (hm : m = C.waits.length) (hq : C.wq = q ++ [c]) (hql : q.length = ql) (hc : c < m) :
    (w.cell? ⟨p, 4, none⟩ = some (.slice (some ⟨gq, 0, none⟩) (ql + 1) cq) ∧ w.frozen? ⟨p, 4, none⟩ = false) ∧
    ((w.setCell ⟨p, 4, none⟩ (.slice (some ⟨gq, 0, none⟩) ql cq)).frozen? ⟨gw, c, none⟩ = false ∧ (∃ u, (w.setCell ⟨p, 4, none⟩ (.slice (some ⟨gq, 0, none⟩) ql cq)).cell? ⟨gw, c, none⟩ = some u) ∧ (w.setCell ⟨p, 4, none⟩ (.slice (some ⟨gq, 0, none⟩) ql cq)).cell? ⟨p, 3, none⟩ = some (.slice (some ⟨gw, 0, none⟩) m cw)) ∧
    ClsM n ((w.setCell ⟨p, 4, none⟩ (.slice (some ⟨gq, 0, none⟩) ql cq)).setCell ⟨gw, c, none⟩ (.bool false)) p κ (C.pop q c) ∧ Pst E9 κ w ((w.setCell ⟨p, 4, none⟩ (.slice (some ⟨gq, 0, none⟩) ql cq)).setCell ⟨gw, c, none⟩ (.bool false)) κ := by
  have hr := h.wq
  rw [hq, List.length_append, show q.length + [c].length = ql + 1 by rw [hql]; rfl] at hr
  have hl := hr.less ql (Nat.le_succ _)
  have e : (natsV (q ++ [c])).take (ql * 1) = natsV q := by
    unfold natsV
    rw [← List.map_take, Nat.mul_one, List.take_left' hql]
  rw [e] at hl
  obtain ⟨h1, h2, p2⟩ := h.setQ (Step.refl κ 13 w) (l := q) (m := ql) hql.symm hl
  obtain ⟨⟨f3, u3, c3⟩, h3, p3⟩ := h2.setW hm c false hc
  exact ⟨h1, ⟨f3, ⟨u3, c3⟩, h2.cells.2.2.2.1⟩, ⟨_, _, _, _, _, _, h3⟩, p2.trans p3⟩

set_option maxRecDepth 100000 in
set_option maxHeartbeats 4000000 in
theorem classesOf_any (F : Nat → Prop) (w : World) (u vb : Value) (ga : Nat) (d : List Au.St) (n : Nat) (hd : d.length = n) (hf : Au.Fits d) (h0 : ¬ Au.Dead (Au.ofL d) (some 0)) (hu : StS F w u d) (hb : RowsS F w vb ((List.range n).map (Au.back d))) (hal : w.rowIs ga 4 n (fun j => .bool (Au.aliveB d j))) :
    Calls Try.prog 55 #[u, vb, .slice (some ⟨ga, 0, none⟩) n n] w fun e w' => ∃ p κ C O, e = .returned (.pointer (some ⟨p, 0, none⟩)) ∧ Cls2 d w w' κ n p C O ∧ C.wq = [] := by
  have hn2 : n ≤ 20000 := by have := hf.top; omega
  have hn0 : 0 < n := by have := hf.pos; omega
  obtain ⟨ad, cd, rfl, _, _, hdc⟩ := hu
  obtain ⟨gd, od, rfl, lgd, _, hdc⟩ := hdc (by omega)
  have HDC := Lib.hid hdc
  have HDN := Lib.hid hd
  have HF := Lib.hid hf
  have HAL := Lib.hid hal
  have HBEG := Lib.hid fun O => Au.begun_inv hf h0 O
  have hmk := run_make_row' (P := Try.prog) 54 3 (.int .i64 0) 8 Try.underlying54 Try.infoN rfl .i64 .i64 n (by omega) (by omega)
  obtain ⟨i1, hi1, hy0, hy1, hy2⟩ := info_parts Try.infoN
  have hln : ((List.range n).map (Au.back d)).length = n := by simp
  have hb2 := hb
  obtain ⟨ab, cb, hvb, hjunk⟩ := hb
  rw [hln] at hvb
  subst hvb
  have HB := Lib.hid hb2
  rw [hd]
  clear hdc hd hf hal h0 hjunk hb2 hln
  go_enter Try.func55, Try.ntmps55
  go_upto_region 1 with (fail)
  go_cut [7] (fun s7 wx => ∃ p bo ba κ, s7 = .pointer (some ⟨p, 0, none⟩) ∧ Hid (Cl1 d w wx κ n p bo ba 0 0 (.slice none 0 0) (.slice none 0 0)))
  case first =>
    go_region
    all_goals
      go_wp2_with fail
      go_meet
      first
        | exact ⟨_, w.heap.size, w.heap.size + 1, _, rfl, cl1_start d w n _ _ (.inl ⟨rfl, rfl⟩)⟩
        | exact ⟨_, w.heap.size + 1, w.heap.size, _, rfl, cl1_start d w n _ _ (.inr ⟨rfl, rfl⟩)⟩
  case rest =>
    obtain ⟨p, bo, ba, κ, rfl, H1⟩ := hcut
    clear hmk
    go_wp2_with fail
    go_loopg [8, 9, 26] n (fun gg s8 s9 s26 wx => ∃ (i : Nat) (κ : Nat → Nat), i ≤ n ∧ gg = n - i ∧ s26 = .int .i64 i ∧ Hid (Cl1 d w wx κ n p bo ba i i s8 s9))
    case atStart => exact ⟨0, _, Nat.zero_le _, rfl, rfl, H1⟩
    case round =>
      clear H1
      obtain ⟨i, κ, hi, rfl, rfl, hP⟩ := hrel
      obtain ⟨a8, c8, rfl, _, _, _⟩ := hP.out.fin.form
      obtain ⟨a9, c9, rfl, _, _, _⟩ := hP.out.oth.form
      have hl8 := Au.finTo_len d i
      have hl9 := Au.othTo_len d i
      by_cases hin : i < n
      · have j1 : (i : Int) < (n : Int) := by omega
        have hid : i < d.length := by rw [HDN.out]; exact hin
        obtain ⟨c1, va, c2, hA⟩ := HDC.out i hid
        have hbl := hP.out.base.below
        have e1 := (cell_same (a := ⟨gd, od + i * 2, none⟩) (hbl.block gd lgd)).trans c1
        have e2 := (cell_same (a := ⟨gd, od + i * 2 + 1, none⟩) (hbl.block gd lgd)).trans c2
        obtain ⟨aa, ca, rfl, hjunk⟩ := hA
        clear hjunk
        have hfi : Hid ((Au.ofL d).fin i = d[i].fin) := by
          show _ = _
          simp [Au.ofL, List.getElem?_eq_getElem hid]
        generalize d[i].fin = fin at *
        generalize d[i].arcs.length = m at *
        have HP1 := Lib.hid (hP.out.zero ((Below.refl _ _).alloc (Nat.le_refl _) (.cells #[.bool fin, .slice aa m ca] 39)))
        have hDb : Hid ((wr.alloc (.cells #[.bool fin, .slice aa m ca] 39)).heap[wr.heap.size]? = some (.cells #[.bool fin, .slice aa m ca] 39 (0, 0))) := Go.Deep.blk_alloc_new _ _
        have hkD : Hid (paint κ wr.heap.size 0 wr.heap.size = 0) := paint_new _ _ _ _ (Nat.le_refl _)
        clear hP hbl c1 c2
        go_upto_region 6 with (fail)
        generalize wr.alloc (.cells #[.bool fin, .slice aa m ca] 39) = w2 at *
        generalize wr.heap.size = D at *
        generalize paint κ D 0 = κ2 at *
        obtain ⟨⟨f1, c1⟩, hm1⟩ := HP1.out.mark hin
        obtain ⟨b0, _, _, _, _, _⟩ := HP1.out.cls.cells
        have d0 : w2.cell? ⟨D, 0, none⟩ = some (.bool fin) := by have h := hDb.out; simp [World.cell?, h]
        have hDbo : D ≠ bo := fun e => by
          have h1 := HP1.out.cls.ko
          rw [← e, hkD.out] at h1
          omega
        have d1 := (cell_same (a := ⟨D, 0, none⟩) (heap_other w2 bo i D (.int .i64 (-1)) hDbo)).trans d0
        have HM1 := Lib.hid hm1
        have e3 := (cell_same (a := ⟨ga, i, none⟩) (hm1.base.below.block ga HAL.out.lt)).trans (HAL.out.cell hin)
        clear HP1 hDb hkD hDbo hm1
        go_upto_region 7 with (fail)
        clear d0 c1 f1 b0
        generalize w2.setCell ⟨bo, i, none⟩ (.int .i64 (-1)) = w3 at *
        cases fin with
        | true =>
          go_wp2_with (at_builtin; refine wpList_pushC rfl _ _ 54 3 rfl i1 _ 1 8 Try.underlying54 hi1 hy0 hy1 hy2 rfl (by decide) κ2 2 _ (Au.finTo d i).length (natsV (Au.finTo d i)) rfl HM1.out.fin [.int .i64 (i : Int)] rfl (one_of rfl) rfl (by omega) (by omega) ?_; intro g6 cp6 w6 hr6 hs6; have HP6 := Lib.hid (HM1.out.addF hfi.out rfl hr6 hs6).1; clear hr6 hs6)
          go_roundg (n - (i + 1))
          case rel => exact ⟨i + 1, _, by omega, rfl, by go_num, HP6⟩
          case measure => omega
        | false =>
          cases hab : Au.aliveB d i with
          | true =>
            rw [hab] at e3
            go_wp2_with (at_builtin; refine wpList_pushC rfl _ _ 54 3 rfl i1 _ 1 8 Try.underlying54 hi1 hy0 hy1 hy2 rfl (by decide) κ2 4 _ (Au.othTo d i).length (natsV (Au.othTo d i)) rfl HM1.out.oth [.int .i64 (i : Int)] rfl (one_of rfl) rfl (by omega) (by omega) ?_; intro g6 cp6 w6 hr6 hs6; have HP6 := Lib.hid (HM1.out.addO hfi.out hab rfl hr6 hs6).1; clear hr6 hs6)
            go_roundg (n - (i + 1))
            case rel => exact ⟨i + 1, _, by omega, rfl, by go_num, HP6⟩
            case measure => omega
          | false =>
            rw [hab] at e3
            have HP6 := Lib.hid (HM1.out.skip hfi.out hab)
            clear HM1
            go_wp2_with fail
            go_roundg (n - (i + 1))
            case rel => exact ⟨i + 1, _, by omega, rfl, by go_num, HP6⟩
            case measure => omega
      · obtain rfl : i = n := by omega
        have HC0 : Hid (ClsM i wr p (fun k => if κ k = 2 then 9 else κ k) Au.Cls.none ∧ RowC (fun k => if κ k = 2 then 9 else κ k) 9 wr 3 1 (.slice a8 (Au.finals d).length c8) (Au.finals d).length (natsV (Au.finals d)) ∧ RowC (fun k => if κ k = 2 then 9 else κ k) 4 wr 3 1 (.slice a9 (Au.others d).length c9) (Au.others d).length (natsV (Au.others d)) ∧ Base w wr (fun k => if κ k = 2 then 9 else κ k)) := by
          have h := hP.out
          have hf1 := h.fin
          have ho1 := h.oth
          rw [← HDN.out, Au.finTo_all] at hf1
          rw [← HDN.out, Au.othTo_all] at ho1
          have hcl : ClsS i wr p κ Au.Cls.none [] bo ba (.slice none 0 0) (.slice none 0 0) (.slice none 0 0) :=
            ⟨h.cls.prow, h.cls.kp, h.cls.of.congr fun j hj => by simp [Au.Cls.none, hj], h.cls.ko, h.cls.pos, h.cls.ka, h.cls.mem, h.cls.lenX, h.cls.each, h.cls.waits, h.cls.wq⟩
          refine ⟨ClsM.recol ⟨_, _, _, _, _, _, hcl⟩ fun k _ ho _ => if_neg (by omega), ⟨hf1.own, fun b hb => ?_⟩, ⟨ho1.own, fun b hb => ?_⟩, h.base.below, fun k hk => ?_⟩
          · show (if _ then _ else _) = _
            rw [if_pos (hf1.col b hb)]
          · show (if _ then _ else _) = _
            rw [ho1.col b hb, if_neg (by decide)]
          · show (if _ then _ else _) = _
            rw [h.base.old k hk, if_neg (by decide)]
        have hfl : (Au.finTo d i).length = (Au.finals d).length := by rw [← HDN.out, Au.finTo_all]
        have hol : (Au.othTo d i).length = (Au.others d).length := by rw [← HDN.out, Au.othTo_all]
        generalize (fun k => if κ k = 2 then 9 else κ k) = κ1 at *
        have hfm : ∀ s ∈ Au.finals d, s < i := fun s hs => by
          unfold Au.finals at hs
          have := List.mem_range.1 (List.mem_filter.1 hs).1
          rw [HDN.out] at this
          exact this
        have hom : ∀ s ∈ Au.others d, s < i := fun s hs => by
          unfold Au.others at hs
          have := List.mem_range.1 (List.mem_filter.1 hs).1
          rw [HDN.out] at this
          exact this
        have HFD := Lib.hid (found_any i wr p κ1 Au.Cls.none (Au.finals d) (.slice a8 (Au.finals d).length c8) HC0.out.1 HC0.out.2.1 hfm (List.Nodup.sublist List.filter_sublist List.nodup_range) (by show (0 : Nat) ≤ _; omega) (by show (0 : Nat) ≤ _; omega) (by omega))
        have HW0 : Hid (∀ W κ, ClsM i W p κ (Au.Cls.none.found (Au.finals d)) → Calls Try.prog 64 #[.pointer (some ⟨p, 0, none⟩), .int .i64 0] W fun e w' => e = .returned (.tuple #[]) ∧ ClsP E9 i p κ W ((Au.Cls.none.found (Au.finals d)).wait 0) w') := fun W κ h =>
          wait_any i W p κ _ 0 h (by show 0 < 1; omega) (by show 1 ≤ _; omega) (by show 0 ≤ _; omega)
        have HFE : Hid (∀ W κ, ClsM i W p κ ((Au.Cls.none.found (Au.finals d)).wait 0) → RowC κ 9 W 3 1 (.slice a9 (Au.others d).length c9) (Au.others d).length (natsV (Au.others d)) → Calls Try.prog 65 #[.pointer (some ⟨p, 0, none⟩), .slice a9 (Au.others d).length c9] W fun e w' => e = .returned (.int .i64 1) ∧ ClsP E i p κ W (((Au.Cls.none.found (Au.finals d)).wait 0).found (Au.others d)) w') := fun W κ h h2 =>
          found_any i W p κ _ (Au.others d) _ h h2 hom (List.Nodup.sublist List.filter_sublist List.nodup_range) (by show (1 : Nat) ≤ _; omega) (by show (1 : Nat) ≤ _; omega) (by omega)
        have HW1 : Hid (∀ W κ, ClsM i W p κ (((Au.Cls.none.found (Au.finals d)).wait 0).found (Au.others d)) → Calls Try.prog 64 #[.pointer (some ⟨p, 0, none⟩), .int .i64 1] W fun e w' => e = .returned (.tuple #[]) ∧ ClsP E9 i p κ W (Au.begun d) w') := fun W κ h =>
          wait_any i W p κ _ 1 h (by show 1 < 2; omega) (by show 2 ≤ _; omega) (by show 1 ≤ _; omega)
        change Hid (Calls _ _ _ _ fun e w' => e = .returned (.int .i64 0) ∧ _) at HFD
        rw [hfl, hol]
        clear hP hfm hom hfl hol hl8 hl9
        go_wp2_with fail
        refine HFD.out.mono ?_
        rintro e w5 ⟨rfl, κ5, h5, p5⟩
        have H5 := Lib.hid (And.intro h5 (And.intro (p5.row HC0.out.2.2.1 rfl) (HC0.out.2.2.2.pst p5.zero)))
        clear h5 p5 HFD HC0
        go_wp2_with fail
        refine (HW0.out _ _ H5.out.1).mono ?_
        rintro e w6 ⟨rfl, κ6, h6, p6⟩
        have H6 : Hid (ClsM i w6 p (fun k => if κ6 k = 4 then 9 else κ6 k) ((Au.Cls.none.found (Au.finals d)).wait 0) ∧ RowC (fun k => if κ6 k = 4 then 9 else κ6 k) 9 w6 3 1 (.slice a9 (Au.others d).length c9) (Au.others d).length (natsV (Au.others d)) ∧ Base w w6 (fun k => if κ6 k = 4 then 9 else κ6 k)) := by
          have ho := p6.row H5.out.2.1 (.inl rfl)
          have hb := H5.out.2.2.pst p6.zero9
          refine ⟨h6.recol fun k _ ho _ => if_neg (by omega), ⟨ho.own, fun b hb => ?_⟩, hb.below, fun k hk => ?_⟩
          · show (if _ then _ else _) = _
            rw [if_pos (ho.col b hb)]
          · show (if _ then _ else _) = _
            rw [hb.old k hk, if_neg (by decide)]
        clear h6 p6 HW0 H5
        generalize (fun k => if κ6 k = 4 then 9 else κ6 k) = κ7 at *
        go_wp2_with fail
        refine (HFE.out _ _ H6.out.1 H6.out.2.1).mono ?_
        rintro e w7 ⟨rfl, κ8, h7, p7⟩
        have H7 := Lib.hid (And.intro h7 (H6.out.2.2.pst p7.zero))
        clear h7 p7 HFE H6
        go_wp2_with fail
        refine (HW1.out _ _ H7.out.1).mono ?_
        rintro e w8 ⟨rfl, κ9, h8, p8⟩
        have H8 : Hid (Cls2 d w w8 κ9 i p (Au.begun d) (fun _ => False)) := ⟨h8, HBEG.out _, H7.out.2.pst p8.zero9⟩
        clear h8 p8 HW1 H7 HBEG
        go_wp2_with fail
        go_loopg [] ((Au.begun d).wq.length + (i + 1 - (Au.begun d).mem.length)) (fun gg wx => ∃ κ C O, gg = C.wq.length + (i + 1 - C.mem.length) ∧ Hid (Cls2 d w wx κ i p C O))
        case atStart => exact ⟨_, _, _, rfl, H8⟩
        case round =>
          clear H8
          obtain ⟨κ, C, O, rfl, hP⟩ := hrel
          obtain ⟨X, bo, ba, vm, vw, vq, hS⟩ := hP.out.cls
          have hfew : C.mem.length ≤ i + 1 := by
            have := Au.few_classes hP.out.inv.ok hP.out.inv.ne
            rw [HDN.out] at this
            exact this
          obtain ⟨b0, b1, b2, b3, b4, b5⟩ := hS.cells
          rcases List.eq_nil_or_concat C.wq with hq | ⟨q, c, hq⟩
          · have hform := hS.wq.form
            rw [hq] at hform
            obtain ⟨aq, cq, rfl, _, _, _⟩ := hform
            clear hS b5
            go_wp2_with fail
            go_ret
            exact ⟨p, κ, C, O, rfl, hP.out, hq⟩
          · rw [List.concat_eq_append] at hq
            have hcq : c ∈ C.wq := by rw [hq]; simp
            have hcm := hP.out.inv.wait.lt hcq
            have hwl := hP.out.inv.wait.len
            have hwql : C.wq.length = q.length + 1 := by rw [hq]; simp
            obtain ⟨aw, cw, rfl, _, _, hw4⟩ := hS.waits.form
            obtain ⟨gw, rfl, _⟩ := hw4 (by omega)
            have hform := hS.wq.form
            rw [hwql] at hform
            obtain ⟨aq, cq, rfl, hqc, _, hq4⟩ := hform
            obtain ⟨gq, rfl, _, _, _, hqx⟩ := hq4 (by omega)
            obtain ⟨ql, hql⟩ : ∃ ql, q.length = ql := ⟨_, rfl⟩
            obtain ⟨m, hm⟩ : ∃ m, m = C.waits.length := ⟨_, rfl⟩
            have r1 := hqx ql (.int .i64 (c : Int)) (by rw [hq, ← hql]; simp [natsV])
            rw [hql] at hS b4 hqc
            rw [← hm] at hS b3
            have hcm2 : c < m := by omega
            obtain ⟨⟨p1, p2⟩, ⟨p3, ⟨u4, p4⟩, p5⟩, hM, hPst⟩ := hS.pop hm hq hql hcm2
            have hH2 : Hid (ClsM i ((wr.setCell ⟨p, 4, none⟩ (.slice (some ⟨gq, 0, none⟩) ql cq)).setCell ⟨gw, c, none⟩ (.bool false)) p κ (C.pop q c) ∧ Base w ((wr.setCell ⟨p, 4, none⟩ (.slice (some ⟨gq, 0, none⟩) ql cq)).setCell ⟨gw, c, none⟩ (.bool false)) κ) := ⟨hM, hP.out.base.pst hPst.zero9⟩
            have j1 : (c : Int) < (m : Int) := by omega
            have j2 : ∀ _ : True, wrap64 (ql : Int) = (ql : Int) := fun _ => by unfold wrap64; omega
            have j3 : (ql : Int) < (ql : Int) + 1 := by omega
            have j4 : (ql : Int) < ((ql + 1 : Nat) : Int) := by omega
            have j5 : (ql : Int) ≤ (cq : Int) := by omega
            have j6 : (0 : Int) < (ql : Int) + 1 := by omega
            have j7 : (0 : Int) < ((ql + 1 : Nat) : Int) := by omega
            have HINV := Lib.hid hP.out.inv
            have HWQ : Hid (C.wq.length = ql + 1) := by
              show _ = _
              omega
            have HQ := Lib.hid hq
            have hrow : ∀ x ∈ C.row c, x < i := fun x hx => by
              have := (hP.out.inv.ok.mem_row hx).1
              rw [HDN.out] at this
              exact this
            have hnd := hP.out.inv.ok.nodup c
            clear hS b0 b1 b2 b5 hw4 hq4 hqx hM hPst hP hwl hwql hcq p1 hm hcm2 hq hql
            go_upto_region 19 with (fail)
            generalize (wr.setCell ⟨p, 4, none⟩ (.slice (some ⟨gq, 0, none⟩) ql cq)).setCell ⟨gw, c, none⟩ (.bool false) = w3 at *
            have HWH := Lib.hid (whence_any d w3 p κ (C.pop q c) c F (.slice ab i cb) i HDN.out HF.out hH2.out.1 hcm hrow hnd (HB.out.below hH2.out.2.below) (by show C.mem.length ≤ _; omega))
            clear p2 p3 p4 p5 b3 b4 r1 hrow hnd
            go_wp2_with fail
            refine HWH.out.mono ?_
            rintro e w4 ⟨uu, S, rfl, hcut, hstr, hb4⟩
            have HCUT : Hid (Au.Cut ((C.row c).flatMap (Au.back d)) 0 S) := hcut
            have hstr2 := hstr.wide (G := fun g => paint κ w3.heap.size 0 g = 0) fun g _ hg => paint_new _ _ _ _ hg
            obtain ⟨sa, cs, rfl, _, _, hjunk⟩ := hstr
            clear hjunk
            have hfewS := hcut.few (Nat.zero_le _)
            obtain ⟨sl, hsl⟩ : ∃ sl, S.length = sl := ⟨_, rfl⟩
            rw [hsl] at hstr2
            have HSL := Lib.hid hsl
            have HI : Hid (ClsM i w4 p (paint κ w3.heap.size 0) (C.pop q c) ∧ Au.HW d C c S 0 (C.pop q c) ∧ Base w w4 (paint κ w3.heap.size 0) ∧ StrS (fun g => paint κ w3.heap.size 0 g = 0) w4 (.slice sa sl cs) S) :=
              ⟨hH2.out.1.step (Step.of_below hb4) rfl, Au.HW.start HINV.out HQ.out hcut, hH2.out.2.pst (Pst.of_below hb4), hstr2⟩
            rw [hsl]
            rw [hsl] at hfewS
            clear hcut hstr2 hb4 HWH hH2 hsl
            go_wp2_with fail
            go_loopg [101] sl (fun gg s101 wx => ∃ (k : Nat) (κ : Nat → Nat) (C' : Au.Cls), k ≤ sl ∧ gg = sl - k ∧ s101 = .int .i64 k ∧ Hid (ClsM i wx p κ C' ∧ Au.HW d C c S k C' ∧ Base w wx κ ∧ StrS (fun g => κ g = 0) wx (.slice sa sl cs) S))
            case atStart => exact ⟨0, _, _, Nat.zero_le _, rfl, rfl, HI⟩
            case round =>
              clear HI
              obtain ⟨k, κ, C', hk, rfl, rfl, hI⟩ := hrel
              by_cases hks : k < sl
              · have j1 : (k : Int) < (sl : Int) := by omega
                have hkS : k < S.length := by rw [HSL.out]; exact hks
                obtain ⟨sa', cs', he, _, _, hcl⟩ := hI.out.2.2.2
                simp only [Value.slice.injEq] at he
                obtain ⟨rfl, hz, rfl⟩ := he
                clear hz
                obtain ⟨g, o, rfl, lg, hgz, hcl⟩ := hcl (by omega)
                obtain ⟨q1, q2, vt, q3, hN⟩ := hcl k hkS
                obtain ⟨l1, l2, l3, l4, _⟩ := Au.HW.list HINV.out HCUT.out hI.out.2.1.inv hkS
                have hnx := Lib.hid (Au.HW.next HINV.out HCUT.out hI.out.2.1 hkS)
                obtain ⟨lst, hlst⟩ : ∃ lst, Au.toL S[k] = lst := ⟨_, rfl⟩
                rw [hlst] at l1 l2 l3 l4 hnx
                rw [← l1] at hN
                have hl3 : ∀ s ∈ lst, s < i ∧ 0 ≤ C'.of s := fun s hs => by
                  have := l3 s hs
                  rw [HDN.out] at this
                  exact this
                generalize S[k].lo = slo at *
                generalize S[k].hi = shi at *
                have hN2 := (hN.wide (G := fun g => paint κ wr.heap.size 0 g = 0) fun g hg hz => (paint_old _ _ _ _ hg).trans hz)
                obtain ⟨at', ct, rfl, hjunk⟩ := hN
                clear hjunk
                have hbA : ∀ ob, Below wr.heap.size wr (wr.alloc ob) := fun ob => (Below.refl _ _).alloc (Nat.le_refl _) _
                obtain ⟨tl, htl⟩ : ∃ tl, (lst.map fun (i : Nat) => (i : Int)).length = tl := ⟨_, rfl⟩
                rw [htl] at hN2 q3
                have hI5 : Hid (ClsM i (wr.alloc (.cells #[.int .i64 (slo : Int), .int .i64 (shi : Int), .slice at' tl ct] 98)) p (paint κ wr.heap.size 0) C' ∧ Base w (wr.alloc (.cells #[.int .i64 (slo : Int), .int .i64 (shi : Int), .slice at' tl ct] 98)) (paint κ wr.heap.size 0) ∧ StrS (fun g => paint κ wr.heap.size 0 g = 0) (wr.alloc (.cells #[.int .i64 (slo : Int), .int .i64 (shi : Int), .slice at' tl ct] 98)) (.slice (some ⟨g, o, none⟩) sl cs) S) :=
                  ⟨hI.out.1.step (Step.of_below (hbA _)) rfl, hI.out.2.2.1.pst (Pst.of_below (hbA _)), hI.out.2.2.2.pst (Pst.of_below (hbA _))⟩
                have HSB := Lib.hid (splitBy_any d _ _ (wr.alloc (.cells #[.int .i64 (slo : Int), .int .i64 (shi : Int), .slice at' tl ct] 98)) p (paint κ wr.heap.size 0) C' lst (.slice at' tl ct) i HDN.out hI5.out.1 hI.out.2.1.inv (hN2.below (hbA _)) l2 hl3 l4 hn2)
                clear hcl l1 l2 l3 l4 hl3 hN2 hbA hI htl hlst
                go_wp2_with fail
                refine HSB.out.mono ?_
                rintro e w6 ⟨rfl, κ6, h6, p6, _⟩
                have hI6 : Hid (ClsM i w6 p κ6 (Au.splitBy C' lst) ∧ Au.HW d C c S (k + 1) (Au.splitBy C' lst) ∧ Base w w6 κ6 ∧ StrS (fun g => κ6 g = 0) w6 (.slice (some ⟨g, o, none⟩) sl cs) S) := ⟨h6, hnx.out, hI5.out.2.1.pst p6, hI5.out.2.2.pst p6⟩
                clear h6 p6 hI5 hnx HSB
                go_wp2_with fail
                go_roundg (sl - (k + 1))
                case rel => exact ⟨k + 1, _, _, by omega, rfl, by go_num, hI6⟩
                case measure => omega
              · obtain rfl : k = sl := by omega
                have hI6 : Hid (Cls2 d w wr κ i p C' (fun x => C.cls x = (c : Int))) := ⟨hI.out.1, hI.out.2.1.done (by rw [HSL.out]; exact Nat.le_refl _), hI.out.2.2.1⟩
                have hme := hI.out.2.1.meas
                have hfew2 : C'.mem.length ≤ i + 1 := by
                  have := Au.few_classes hI6.out.inv.ok hI6.out.inv.ne
                  rw [HDN.out] at this
                  exact this
                clear hI
                go_wp2_with fail
                go_roundg (C'.wq.length + (i + 1 - C'.mem.length))
                case rel => exact ⟨κ, C', _, rfl, hI6⟩
                case measure => omega
end Go.Proofs.Ytdcofdndkpmpaaa

/-
  The program's told, plainly and in memory: classes met, in their order.
-/
namespace Go.Proofs.Ytdcofdndkpmpaaa
open Go.RowKit Go.Maps
namespace Au
/-- To which classes arcs lead. -/
def trs (C : Cls) (l : List Arc) : List (Trail Nat) := l.filterMap fun a => if C.of a.to.toNat = -1 then none else some ⟨a.lo.toNat, a.hi.toNat, (C.of a.to.toNat).toNat⟩
theorem trs_cons (C : Cls) (a : Arc) (r : List Arc) : trs C (a :: r) = if C.of a.to.toNat = -1 then trs C r else ⟨a.lo.toNat, a.hi.toNat, (C.of a.to.toNat).toNat⟩ :: trs C r := by
  unfold trs
  by_cases h : C.of a.to.toNat = -1
  · rw [if_pos h, List.filterMap_cons_none (by simp [h])]
  · rw [if_neg h, List.filterMap_cons_some (by simp [h]; rfl)]
theorem trs_snoc (C : Cls) (l : List Arc) (a : Arc) : trs C (l ++ [a]) = if C.of a.to.toNat = -1 then trs C l else trs C l ++ [⟨a.lo.toNat, a.hi.toNat, (C.of a.to.toNat).toNat⟩] := by
  unfold trs
  rw [List.filterMap_append]
  by_cases h : C.of a.to.toNat = -1
  · rw [if_pos h]; simp [h]
  · rw [if_neg h]; simp [h]
theorem trs_len (C : Cls) (l : List Arc) : (trs C l).length ≤ l.length := List.length_filterMap_le ..
def leadTo (C : Cls) (t : Int) : Option Nat := if C.of t.toNat = -1 then none else some (C.of t.toNat).toNat
theorem trs_leads (W : Walk Nat) (C : Cls) (s : Nat) {n : Nat} : ∀ (l : List Arc) (c : Nat), Row n 256 l → (∀ a ∈ l.head?, (c : Int) ≤ a.lo) → (∀ z : Nat, c ≤ z → z < 256 → W.go s z = (look l (z : Int)).bind (leadTo C)) → Leads W s c (trs C l) := by
  intro l
  induction l with
  | nil =>
    intro c _ _ hg x h1 h2
    rw [hg x h1 h2]
    rfl
  | cons a r ih =>
    intro c hrow hc hg
    obtain ⟨hr, hb, hl⟩ := hrow.tail
    have hca := hc a (by simp)
    rw [trs_cons]
    have hup : ∀ z : Int, z ≤ a.hi → look r z = none := fun z hz => look_low hr z fun x hx => by have := hl x hx; omega
    by_cases h : C.of a.to.toNat = -1
    · rw [if_pos h]
      refine ih c hr (fun x hx => ?_) fun z h1 h2 => ?_
      · have : x ∈ r := List.mem_of_mem_head? hx
        have := hl x this
        omega
      · rw [hg z h1 h2]
        by_cases hz : a.lo ≤ (z : Int) ∧ (z : Int) ≤ a.hi
        · rw [look_hit a r z hz, hup z hz.2]
          show leadTo C a.to = none
          unfold leadTo
          rw [if_pos h]
        · by_cases h3 : a.hi < (z : Int)
          · rw [look_skip a r z h3]
          · rw [look_ahead hrow z (by omega), hup z (by omega)]
    · rw [if_neg h]
      refine ⟨by show c ≤ a.lo.toNat; omega, by show a.lo.toNat ≤ a.hi.toNat; omega, by show a.hi.toNat < 256; omega, fun x h1 h2 => ?_, fun x h1 h2 => ?_, ?_⟩
      · change x < a.lo.toNat at h2
        rw [hg x h1 (by omega), look_ahead hrow x (by omega)]
        rfl
      · change a.lo.toNat ≤ x at h1
        change x ≤ a.hi.toNat at h2
        rw [hg x (by omega) (by omega), look_hit a r x (by omega)]
        show leadTo C a.to = _
        unfold leadTo
        rw [if_neg h]
      · show Leads W s (a.hi.toNat + 1) (trs C r)
        refine ih _ hr (fun x hx => ?_) fun z h1 h2 => ?_
        · have : x ∈ r := List.mem_of_mem_head? hx
          have := hl x this
          omega
        · rw [hg z (by omega) h2, look_skip a r z (by omega)]
theorem quo_go (d : List St) (C : Cls) (hr : ∀ i (h : i < d.length), Row d.length 256 d[i].arcs) (c z : Nat) : (quo d C).go c z = (look (arcsOf d ((C.row c).getD 0 0)) (z : Int)).bind (leadTo C) := by
  cases hl : look (arcsOf d ((C.row c).getD 0 0)) (z : Int) with
  | none =>
    have : (ofL d).step ((C.row c).getD 0 0) z = none := by
      cases hs : (ofL d).step ((C.row c).getD 0 0) z with
      | none => rfl
      | some t => rw [(look_step d _ z t hr).2 hs] at hl; cases hl
    simp only [quo, this, Option.bind]
  | some t =>
    obtain ⟨k, hk, e⟩ := look_mem hl
    have hb := (arcsOf_row hr ((C.row c).getD 0 0)).1 k hk
    rw [e] at hb
    have : (ofL d).step ((C.row c).getD 0 0) z = some t.toNat := (look_step d _ z t.toNat hr).1 (by rw [hl, Int.toNat_of_nonneg hb.2.2.2.1])
    simp only [quo, this, Option.bind, leadTo]
theorem quo_leads (d : List St) (C : Cls) (hr : ∀ i (h : i < d.length), Row d.length 256 d[i].arcs) (c : Nat) : Leads (quo d C) c 0 (trs C (arcsOf d ((C.row c).getD 0 0))) :=
  trs_leads _ C c _ 0 (arcsOf_row hr _) (fun a ha => by
    have h1 : a ∈ arcsOf d ((C.row c).getD 0 0) := List.mem_of_mem_head? ha
    obtain ⟨k, hk, rfl⟩ := List.getElem_of_mem h1
    have := (arcsOf_row hr _).1 k hk
    omega) fun z _ _ => quo_go d C hr c z
/-- What has been met and told with the first arcs. -/
def lp (W : Walk Nat) (C : Cls) (m : List Nat) (l : List Arc) : List Nat × List Arc := (trs C l).foldl W.lead (m, [])
theorem lp_nil (W : Walk Nat) (C : Cls) (m : List Nat) : lp W C m [] = (m, []) := rfl
theorem lp_leads (W : Walk Nat) (C : Cls) (m : List Nat) (l : List Arc) : lp W C m l = W.leads m (trs C l) (trs C l).length := by
  unfold lp Walk.leads
  rw [List.take_of_length_le (Nat.le_refl _)]
theorem lp_snoc (W : Walk Nat) (C : Cls) (m : List Nat) (l : List Arc) (a : Arc) : lp W C m (l ++ [a]) = if C.of a.to.toNat = -1 then lp W C m l else W.lead (lp W C m l) ⟨a.lo.toNat, a.hi.toNat, (C.of a.to.toNat).toNat⟩ := by
  unfold lp
  rw [trs_snoc]
  split
  · rfl
  · rw [List.foldl_append]
    rfl
def idxN (E : List Nat) (b : Nat) : Nat := find (fun a b => decide (a = b)) E b
theorem idxN_le (E : List Nat) (b : Nat) : idxN E b ≤ E.length := find_le _ _ _
end Au
def plN (E : List Nat) (b : Nat) : Option Value := if Au.idxN E b = E.length then none else some (.int .i64 (Au.idxN E b : Int))
theorem plN_snoc {E : List Nat} {b : Nat} (h : Au.idxN E b = E.length) (c : Nat) : plN (E ++ [b]) c = if c = b then some (.int .i64 (E.length : Int)) else plN E c := by
  by_cases e : c = b
  · rw [if_pos e]
    subst e
    unfold plN
    have h2 : Au.idxN (E ++ [c]) c = E.length := Au.find_snoc (fun a b : Nat => decide (a = b)) (fun s => decide_eq_true rfl) E c h
    rw [h2, if_neg (by rw [List.length_append]; simp)]
  · rw [if_neg e]
    unfold plN
    by_cases h1 : Au.idxN E c < E.length
    · have h2 : Au.idxN (E ++ [b]) c = Au.idxN E c := Au.find_append (fun a b : Nat => decide (a = b)) E [b] c h1
      rw [h2, if_neg (by rw [List.length_append]; simp; omega), if_neg (by omega)]
    · have h3 := Au.idxN_le E c
      have h4 : Au.idxN (E ++ [b]) c = (E ++ [b]).length := by
        have h5 := Au.idxN_le (E ++ [b]) c
        rcases Nat.lt_or_ge (Au.idxN (E ++ [b]) c) (E ++ [b]).length with q | q
        · exfalso
          have h6 := Au.find_hit (fun a b : Nat => decide (a = b)) (E ++ [b]) c q
          have h6 := of_decide_eq_true h6
          by_cases q2 : Au.idxN (E ++ [b]) c < E.length
          · have e2 : (E ++ [b])[Au.idxN (E ++ [b]) c] = E[Au.idxN (E ++ [b]) c] := List.getElem_append_left q2
            obtain ⟨_, h7⟩ := Au.find_miss (fun a b : Nat => decide (a = b)) E c (Au.idxN (E ++ [b]) c) (by show _ < Au.idxN E c; omega)
            have h7 := of_decide_eq_false h7
            exact h7 (e2 ▸ h6)
          · have e3 : Au.idxN (E ++ [b]) c = E.length := by simp at q; omega
            have e2 : (E ++ [b])[Au.idxN (E ++ [b]) c] = b := by simp [e3]
            exact e (by rw [← h6]; exact e2)
        · omega
      rw [h4, if_pos rfl, if_pos (by omega)]
def MapN (w : World) (mb : Nat) (E : List Nat) : Prop := ∃ F, MapG 3 w mb E.length F ∧ ∀ s, F (keyN s) = plN E s
theorem mapN_new {w : World} {mb : Nat} {E : List Nat} {F : Lit → Option Value} {b : Nat} (h : MapG 3 w mb (E.length + 1) (updG F (keyN b) (some (.int .i64 (E.length : Int))))) (hF : ∀ s, F (keyN s) = plN E s) (hb : Au.idxN E b = E.length) : MapN w mb (E ++ [b]) := by
  refine ⟨_, by rw [List.length_append]; exact h, fun s => ?_⟩
  rw [plN_snoc hb]
  by_cases e : s = b
  · rw [if_pos e, e, updG_same]
  · rw [if_neg e, updG_other _ _ _ _ fun h => e (keyN_inj h)]
    exact hF s
/-- The classes met, and their places. -/
structure TN (w : World) (mb : Nat) (κ : Nat → Nat) (vt : Value) (E : List Nat) : Prop where
  texts : RowC κ 2 w 3 1 vt E.length (natsV E)
  map : MapN w mb E
  col : κ mb = 3
theorem TN.lt {w : World} {mb : Nat} {κ : Nat → Nat} {vt : Value} {E : List Nat} (h : TN w mb κ vt E) : mb < w.heap.size := by
  obtain ⟨F, hm, _⟩ := h.map
  exact hm.lt
theorem TN.step {w w' : World} {mb c : Nat} {κ κ' : Nat → Nat} {vt : Value} {E : List Nat} (h : TN w mb κ vt E) (hs : Step κ c w w' κ') (h2 : 2 ≠ c) (h3 : 3 ≠ c) : TN w' mb κ' vt E := by
  obtain ⟨F, hm, hF⟩ := h.map
  have hl := hm.lt
  exact ⟨h.texts.step hs h2, ⟨F, hm.keep (hs.block mb hl (by rw [h.col]; exact h3)), hF⟩, by rw [hs.col mb hl]; exact h.col⟩
theorem Base.step {w0 w w' : World} {κ κ' : Nat → Nat} {c : Nat} (h : Base w0 w κ) (hs : Step κ c w w' κ') (hc : c ≠ 0) : Base w0 w' κ' := h.pst (Pst.of_step hs (by unfold O0; exact hc))
/-- Lists in blocks of their own. -/
def ApartL (L : List (Bool × Value)) : Prop := ∀ j k (hj : j < L.length) (hk : k < L.length), j ≠ k → ∀ g, L[j].2.ownBlock = some g → L[k].2.ownBlock ≠ some g
/-- Between two classes. -/
structure No (w0 w : World) (mb : Nat) (κ : Nat → Nat) (vt vo : Value) (E : List Nat) (L : List (Bool × Value)) (out : List Au.St) : Prop where
  bs : Base w0 w κ
  tm : TN w mb κ vt E
  ot : OT w κ vo L out
  ap : ApartL L
/-- Within one. -/
structure Ni (w0 w : World) (mb sb : Nat) (κ : Nat → Nat) (vt vo va : Value) (E : List Nat) (L : List (Bool × Value)) (out : List Au.St) (fin : Bool) (arcs : List Au.Arc) : Prop where
  bs : Base w0 w κ
  tm : TN w mb κ vt E
  ot : OT w κ vo L out
  ap : ApartL L
  cs : CS w sb κ va fin arcs
section
variable {w0 w w' : World} {mb sb : Nat} {κ κ' : Nat → Nat} {vt vo va : Value} {E : List Nat} {L : List (Bool × Value)} {out : List Au.St} {fin : Bool} {arcs : List Au.Arc}
theorem No.step {c : Nat} (h : No w0 w mb κ vt vo E L out) (hs : Step κ c w w' κ') (hc : 6 ≤ c) : No w0 w' mb κ' vt vo E L out :=
  ⟨h.bs.step hs (by omega), h.tm.step hs (by omega) (by omega), h.ot.step hs (by omega) (by omega), h.ap⟩
theorem No.open (h : No w0 w mb κ vt vo E L out) (fin : Bool) :
    Ni w0 (w.alloc (.cells #[.bool fin, .slice none 0 0] 39)) mb w.heap.size (paint κ w.heap.size 7) vt vo (.slice none 0 0) E L out fin [] := by
  have hs : Step κ 7 w (w.alloc (.cells #[.bool fin, .slice none 0 0] 39)) (paint κ w.heap.size 7) := Step.of_alloc w _
  obtain ⟨h1, h2, h3, h4⟩ := h.step hs (by decide)
  exact ⟨h1, h2, h3, h4, ⟨Go.Deep.blk_alloc_new _ _, paint_new _ _ _ _ (Nat.le_refl _), RowC.nil _ _ _ _ _⟩⟩
theorem Ni.step {c : Nat} (h : Ni w0 w mb sb κ vt vo va E L out fin arcs) (hs : Step κ c w w' κ') (hc : 9 ≤ c) : Ni w0 w' mb sb κ' vt vo va E L out fin arcs :=
  ⟨h.bs.step hs (by omega), h.tm.step hs (by omega) (by omega), h.ot.step hs (by omega) (by omega), h.ap, h.cs.step hs (by omega) (by omega)⟩
theorem Ni.drew (h : Ni w0 w mb sb κ vt vo va E L out fin arcs) : Ni w0 w.drew mb sb κ vt vo va E L out fin arcs := by
  obtain ⟨F, hm, hF⟩ := h.tm.map
  exact ⟨⟨h.bs.below.drew, h.bs.old⟩, ⟨h.tm.texts.drew, ⟨F, hm.keep rfl, hF⟩, h.tm.col⟩, ⟨h.ot.outs.drew, h.ot.len, fun j a b => ⟨(h.ot.each j a b).1, (h.ot.each j a b).2.drew⟩⟩, h.ap, ⟨h.cs.row, h.cs.col, h.cs.arcs.drew⟩⟩
theorem No.drew (h : No w0 w mb κ vt vo E L out) : No w0 w.drew mb κ vt vo E L out := by
  obtain ⟨F, hm, hF⟩ := h.tm.map
  exact ⟨⟨h.bs.below.drew, h.bs.old⟩, ⟨h.tm.texts.drew, ⟨F, hm.keep rfl, hF⟩, h.tm.col⟩, ⟨h.ot.outs.drew, h.ot.len, fun j a b => ⟨(h.ot.each j a b).1, (h.ot.each j a b).2.drew⟩⟩, h.ap⟩
theorem Ni.place (h : Ni w0 w mb sb κ vt vo va E L out fin arcs) (hg : w.grownBy w' (some mb)) :
    Step κ 3 w w' (paint κ w.heap.size 3) ∧ RowC (paint κ w.heap.size 3) 2 w' 3 1 vt E.length (natsV E) :=
  have hs : Step κ 3 w w' (paint κ w.heap.size 3) := Step.of_grown hg h.tm.col
  ⟨hs, h.tm.texts.step hs (by decide)⟩
theorem Ni.push {b : Nat} {w2 : World} {vt' : Value} (h : Ni w0 w mb sb κ vt vo va E L out fin arcs) (hm : MapN w' mb (E ++ [b])) (hs : Step κ 3 w w' κ')
    (hr : RowC (paint κ' w'.heap.size 2) 2 w2 3 1 vt' (E.length + 1) (natsV E ++ [.int .i64 (b : Int)])) (hs2 : Step κ' 2 w' w2 (paint κ' w'.heap.size 2)) : Ni w0 w2 mb sb (paint κ' w'.heap.size 2) vt' vo va (E ++ [b]) L out fin arcs := by
  obtain ⟨F, hmm, hF⟩ := hm
  have hl := h.tm.lt
  have hc : κ' mb = 3 := by rw [hs.col mb hl]; exact h.tm.col
  have hl' : mb < w'.heap.size := Nat.lt_of_lt_of_le hl hs.size
  refine ⟨(h.bs.step hs (by decide)).step hs2 (by decide), ⟨?_, ⟨F, hmm.keep (hs2.block mb hl' (by rw [hc]; decide)), hF⟩, by rw [hs2.col mb hl']; exact hc⟩, (h.ot.step hs (by decide) (by decide)).step hs2 (by decide) (by decide), h.ap, (h.cs.step hs (by decide) (by decide)).step hs2 (by decide) (by decide)⟩
  rw [← natsV_snoc, List.length_append]
  exact hr
theorem Ni.grow {va' : Value} {arcs' : List Au.Arc} (h : Ni w0 w mb sb κ vt vo va E L out fin arcs) (h2 : Ap.Two w w' va va') (ha : OwnA w' 0 va' arcs') :
    (w'.cell? ⟨sb, 1, none⟩ = some va ∧ w'.frozen? ⟨sb, 1, none⟩ = false) ∧ Ni w0 (w'.setCell ⟨sb, 1, none⟩ va') mb sb (paint κ w.heap.size 6) vt vo va' E L out fin arcs' := by
  have hs : Step κ 6 w w' (paint κ w.heap.size 6) := Step.of_two h2 fun b hb => h.cs.arcs.col b hb
  have hsb := h.cs.lt
  have hrow : w'.heap[sb]? = some (.cells #[.bool fin, va] 39 (0, 0)) := (hs.block sb hsb (by rw [h.cs.col]; decide)).trans h.cs.row
  have hcol : paint κ w.heap.size 6 sb = 7 := by rw [paint_old _ _ _ _ hsb]; exact h.cs.col
  have hs2 : Step (paint κ w.heap.size 6) 7 w' (w'.setCell ⟨sb, 1, none⟩ va') (paint κ w.heap.size 6) := Step.of_set w' sb 1 va' hcol
  have har : RowC (paint κ w.heap.size 6) 6 w' 41 3 va' arcs'.length (arcsV arcs') := ⟨ha, Two.col h2 fun b hb => h.cs.arcs.lt b hb⟩
  refine ⟨⟨by simp [World.cell?, hrow], by simp [World.frozen?, hrow]⟩, (h.bs.step hs (by decide)).step hs2 (by decide), (h.tm.step hs (by decide) (by decide)).step hs2 (by decide) (by decide), (h.ot.step hs (by decide) (by decide)).step hs2 (by decide) (by decide), h.ap, ⟨?_, hcol, har.step hs2 (by decide)⟩⟩
  rw [setCell_eq_setRow w' sb 1 _ _ _ _ hrow]
  exact setRow_heap w' sb _ _ _ _ hrow
theorem Ni.close {vo' : Value} (h : Ni w0 w mb sb κ vt vo va E L out fin arcs) (hr : RowC (paint κ w.heap.size 4) 4 w' 39 2 vo' (L.length + 1) (stsV L ++ [.bool fin, va])) (hs : Step κ 4 w w' (paint κ w.heap.size 4)) :
    No w0 w' mb (fun k => if paint κ w.heap.size 4 k = 6 then 5 else paint κ w.heap.size 4 k) vt vo' E (L ++ [(fin, va)]) (out ++ [⟨fin, arcs⟩]) := by
  have recol : ∀ {c : Nat} {e : TypeId} {z : Nat} {v : Value} {n : Nat} {xs : List Value}, RowC (paint κ w.heap.size 4) c w' e z v n xs → c ≠ 6 → RowC (fun k => if paint κ w.heap.size 4 k = 6 then 5 else paint κ w.heap.size 4 k) c w' e z v n xs := fun {c e z v n xs} hr hc =>
    ⟨hr.own, fun b hb => by show (if _ then _ else _) = _; rw [hr.col b hb, if_neg hc]⟩
  have hb := h.bs.step hs (by decide)
  have ht := h.tm.step hs (by decide) (by decide)
  have hl := h.ot.len
  refine ⟨⟨hb.below, fun k hk => by show (if _ then _ else _) = _; rw [hb.old k hk, if_neg (by decide)]⟩, ⟨recol ht.texts (by decide), ht.map, by show (if _ then _ else _) = _; rw [ht.col, if_neg (by decide)]⟩, ⟨?_, by simp [hl], fun j hj hj' => ?_⟩, fun j k hj hk hne g hg hgk => ?_⟩
  · rw [← stsV_snoc L (fin, va), List.length_append]
    exact recol hr (by decide)
  · by_cases e : j < L.length
    · rw [List.getElem_append_left e, List.getElem_append_left (by omega)]
      exact ⟨(h.ot.each j e (by omega)).1, recol ((h.ot.each j e (by omega)).2.step hs (by decide)) (by decide)⟩
    · have e' : j = L.length := by simp at hj; omega
      subst e'
      simp only [List.getElem_append_right (Nat.le_refl _), Nat.sub_self, List.getElem_cons_zero]
      have : (out ++ [(⟨fin, arcs⟩ : Au.St)])[L.length] = ⟨fin, arcs⟩ := by simp only [hl, List.getElem_append_right (Nat.le_refl _), Nat.sub_self, List.getElem_cons_zero]
      rw [this]
      refine ⟨rfl, (h.cs.arcs.step hs (by decide)).own, fun b hb => ?_⟩
      show (if _ then _ else _) = _
      rw [(h.cs.arcs.step hs (by decide)).col b hb, if_pos rfl]
  · have key : ∀ j (hj : j < L.length) g, L[j].2.ownBlock = some g → κ g = 5 := fun j hj g hg => (h.ot.each j hj (by omega)).2.col g hg
    have hva : ∀ g, va.ownBlock = some g → κ g = 6 := fun g hg => h.cs.arcs.col g hg
    by_cases e1 : j < L.length
    · rw [List.getElem_append_left e1] at hg
      by_cases e2 : k < L.length
      · rw [List.getElem_append_left e2] at hgk
        exact h.ap j k e1 e2 hne g hg hgk
      · have e' : k = L.length := by simp at hk; omega
        subst e'
        simp at hgk
        have h1 := key j e1 g hg
        have h2 := hva g hgk
        omega
    · have e' : j = L.length := by simp at hj; omega
      subst e'
      simp at hg
      have e2 : k < L.length := by simp at hk; omega
      rw [List.getElem_append_left e2] at hgk
      have h1 := key k e2 g hgk
      have h2 := hva g hg
      omega
end
/-- A slice of states whose lists of arcs are the call's own, each in a block of its own. -/
def StO (B : Nat) (w : World) (v : Value) (d : List Au.St) : Prop :=
  ∃ (vs : List Value) (a : Option Addr) (cap : Nat), vs.length = d.length ∧ v = .slice a d.length cap ∧ d.length ≤ cap ∧ cap ≤ 9223372036854775807 ∧
    (0 < d.length → ∃ g, a = some ⟨g, 0, none⟩ ∧ g < w.heap.size ∧ B ≤ g ∧ (∃ cs fz, w.heap[g]? = some (.cells cs 39 fz)) ∧ ∀ j (h : j < d.length) (h2 : j < vs.length), w.cell? ⟨g, j * 2, none⟩ = some (.bool d[j].fin) ∧ w.cell? ⟨g, j * 2 + 1, none⟩ = some vs[j]) ∧
    (∀ j (h : j < d.length) (h2 : j < vs.length), OwnA w B vs[j] d[j].arcs) ∧ ∀ j k (hj : j < vs.length) (hk : k < vs.length), j ≠ k → ∀ g, vs[j].ownBlock = some g → vs[k].ownBlock ≠ some g
theorem StO.sts {B : Nat} {w : World} {v : Value} {d : List Au.St} (h : StO B w v d) : StS (fun g => B ≤ g) w v d := by
  obtain ⟨vs, a, cap, h0, h1, h2, h3, h4, h5, _⟩ := h
  refine ⟨a, cap, h1, h2, h3, fun hp => ?_⟩
  obtain ⟨g, k1, k2, k3, _, k5⟩ := h4 hp
  refine ⟨g, 0, k1, k2, k3, fun j hj => ?_⟩
  obtain ⟨t1, t2⟩ := k5 j hj (by omega)
  rw [Nat.zero_add]
  exact ⟨t1, vs[j]'(by omega), t2, (h5 j hj (by omega)).arcs _ fun g hg => hg⟩
theorem ownA_base {w : World} {B C : Nat} {v : Value} {l : List Au.Arc} (h : OwnA w B v l) (hC : C ≤ B) : OwnA w C v l := ownsRow_base h hC
theorem StO.lower {B C : Nat} {w : World} {v : Value} {d : List Au.St} (h : StO B w v d) (hC : C ≤ B) : StO C w v d := by
  obtain ⟨vs, a, cap, h0, h1, h2, h3, h4, h5, h6⟩ := h
  refine ⟨vs, a, cap, h0, h1, h2, h3, fun hp => ?_, fun j hj hj2 => ownA_base (h5 j hj hj2) hC, h6⟩
  obtain ⟨g, k1, k2, k3, k4, k5⟩ := h4 hp
  exact ⟨g, k1, k2, by omega, k4, k5⟩
theorem StO.nil (B : Nat) (w : World) : StO B w (.slice none 0 0) [] := ⟨[], none, 0, rfl, rfl, Nat.le_refl _, by omega, fun h => by simp at h, fun j h => by simp at h, fun j k h => by simp at h⟩
theorem OT.sto {w : World} {κ : Nat → Nat} {vo : Value} {L : List (Bool × Value)} {out : List Au.St} {B : Nat} (h : OT w κ vo L out) (ha : ApartL L) (hB : ∀ g, g < w.heap.size → κ g = 4 ∨ κ g = 5 → B ≤ g) : StO B w vo out := by
  obtain ⟨a, cap, h1, h2, h3, h4⟩ := h.outs.form
  have hl := h.len
  rw [hl] at h1 h2
  refine ⟨L.map Prod.snd, a, cap, by rw [List.length_map]; exact hl, h1, h2, h3, fun h0 => ?_, fun j hj hj2 => ?_, fun j k hj hk hne g hg hgk => ?_⟩
  · obtain ⟨g, h5, h6, h7, _, h8⟩ := h4 (by omega)
    have hkd := h.outs.kind
    have hob : vo.ownBlock = some g := by rw [h1, h5]; rfl
    refine ⟨g, h5, h6, hB g h6 (.inl h7), hkd g hob, fun j hj hj2 => ?_⟩
    obtain ⟨t1, _⟩ := h.each j (by omega) hj
    obtain ⟨c1, c2⟩ := stsV_at L j (by omega)
    rw [List.getElem_map]
    exact ⟨(h8 _ _ c1).trans (by rw [t1]), h8 _ _ c2⟩
  · rw [List.getElem_map]
    have hr := (h.each j (by omega) hj).2
    rcases hr.own.2 with ⟨e1, e0⟩ | ⟨g, c, cur, e1, eg, eh, r1, r2, r3, r4⟩
    · exact ⟨hr.own.1, .inl ⟨e1, e0⟩⟩
    · have hob : L[j].2.ownBlock = some g := by rw [e1]; rfl
      exact ⟨hr.own.1, .inr ⟨g, c, cur, e1, hB g (hr.lt g hob).1 (.inr (hr.lt g hob).2), eh, r1, r2, r3, r4⟩⟩
  · rw [List.getElem_map] at hg hgk
    exact ha j k (by simpa using hj) (by simpa using hk) hne g hg hgk
end Go.Proofs.Ytdcofdndkpmpaaa

/-
  The program's told: the walk.
-/
namespace Go.Proofs.Ytdcofdndkpmpaaa
open Go.RowKit Go.Maps
namespace Au
theorem trs_hi (C : Cls) (l : List Arc) (h : ∀ a ∈ l, 0 ≤ a.hi ∧ a.hi < 256) : ∀ x ∈ trs C l, x.hi < 256 := fun x hx => by
  unfold trs at hx
  obtain ⟨a, ha, e⟩ := List.mem_filterMap.1 hx
  split at e
  · cases e
  · cases e
    have := h a ha
    show a.hi.toNat < 256
    omega
theorem lp_len (W : Walk Nat) (C : Cls) (m : List Nat) (l : List Arc) : (lp W C m l).1.length ≤ m.length + l.length ∧ (lp W C m l).2.length ≤ l.length := by
  rw [lp_leads]
  have h1 := leads_len W m (trs C l) (trs C l).length
  have h2 := leads_arcs W m (trs C l) (trs C l).length
  have h3 := trs_len C l
  exact ⟨by omega, by omega⟩
theorem lp_hi (W : Walk Nat) (C : Cls) (m : List Nat) (l : List Arc) (h : ∀ a ∈ l, 0 ≤ a.hi ∧ a.hi < 256) : ∀ a ∈ (lp W C m l).2, 0 ≤ a.hi ∧ a.hi ≤ 1000 := by
  rw [lp_leads]
  exact leads_hi W m (trs C l) (trs_hi C l h) _
/-- Classes that have states. -/
def Has (n : Nat) (C : Cls) (c : Nat) : Prop := ∃ s, s < n ∧ C.of s = (c : Int)
theorem has_go {d : List St} {C : Cls} (hr : ∀ i (h : i < d.length), Row d.length 256 d[i].arcs) (hm : ∀ s, s < d.length → -1 ≤ C.of s) (s b t : Nat) (_ : Has d.length C s) (h : (quo d C).go s b = some t) : Has d.length C t := by
  unfold quo at h
  dsimp only at h
  cases hs : (ofL d).step ((C.row s).getD 0 0) b with
  | none => rw [hs] at h; cases h
  | some x =>
    rw [hs] at h
    dsimp only at h
    have hx := ofL_in hr hs
    have := hm x hx
    split at h
    · cases h
    · rename_i hne
      cases h
      exact ⟨x, hx, by omega⟩
end Au
theorem no_start (w W : World) (mb g c0 : Nat) (hm : MapN W mb [c0]) (hb : Below w.heap.size w W) (hg : W.heap[g]? = some (.cells #[.int .i64 (c0 : Int)] 3 (0, 0))) (h1 : w.heap.size ≤ mb) (h2 : w.heap.size ≤ g) (hne : mb ≠ g) :
    No w W mb (fun k => if k = mb then 3 else if k = g then 2 else 0) (.slice (some ⟨g, 0, none⟩) 1 1) (.slice none 0 0) [c0] [] [] := by
  refine ⟨⟨hb, fun k hk => ?_⟩, ⟨⟨⟨rfl, .inr ⟨g, 1, _, rfl, Nat.zero_le _, hg, Nat.le_refl _, by unfold maxLen; omega, rfl, rfl⟩⟩, fun b hbb => ?_⟩, hm, if_pos rfl⟩, ⟨RowC.nil _ _ _ _ _, rfl, fun j h => by simp at h⟩, fun j k h => by simp at h⟩
  · show (if _ then _ else _) = _
    rw [if_neg (by omega), if_neg (by omega)]
  · obtain rfl : b = g := by simpa [Value.ownBlock] using hbb.symm
    show (if _ then _ else _) = _
    rw [if_neg (fun e => hne e.symm), if_pos rfl]

set_option maxRecDepth 100000 in
set_option maxHeartbeats 4000000 in
theorem told_any (F : Nat → Prop) (w : World) (u : Value) (d : List Au.St) (n p : Nat) (κ0 : Nat → Nat) (C : Au.Cls) (O : Option Nat → Prop) (hd : d.length = n) (hf : Au.Fits d) (h0 : ¬ Au.Dead (Au.ofL d) (some 0)) (hu : StS F w u d) (hC : ClsM n w p κ0 C) (hI : Au.HInv d O (fun _ => False) C) (hq : C.wq = []) :
    Calls Try.prog 54 #[u, .pointer (some ⟨p, 0, none⟩)] w fun e w' => ∃ v, e = .returned v ∧ StO w.heap.size w' v (Au.least d) ∧ Below w.heap.size w w' := by
  have hn2 : n ≤ 20000 := by have := hf.top; omega
  have hn0 : 0 < n := by have := hf.pos; omega
  obtain ⟨ad, cd, rfl, _, _, hdc⟩ := hu
  obtain ⟨gd, od, rfl, lgd, _, hdc⟩ := hdc (by omega)
  have HDC := Lib.hid hdc
  have HDN := Lib.hid hd
  have HROW := Lib.hid (Au.arcsOf_row hf.row)
  have hmin : ∀ s, s < d.length → -1 ≤ C.of s := fun s hs => by
    rcases hI.lt hs with h | h
    · omega
    · omega
  obtain ⟨c0, hc0⟩ : ∃ c0 : Nat, C.of 0 = (c0 : Int) := by
    rcases hI.lt (s := 0) (by omega) with h | h
    · exact absurd ((hI.dead 0 (by omega)).1 h) h0
    · exact ⟨(C.of 0).toNat, by omega⟩
  obtain ⟨W, hW⟩ : ∃ W, W = Au.quo d C := ⟨_, rfl⟩
  obtain ⟨_, _, hmetn⟩ := Au.quo_least hf hI hq c0 hc0
  have hend := fun i => Au.quo_end hf hI hq c0 hc0 i
  have hql := fun c => Au.quo_leads d C hf.row c
  have hrefl : ∀ s, W.same s s = true := fun s => by rw [hW]; exact Au.quo_refl d C s
  have hhas : ∀ i, ∀ x ∈ W.met c0 i, Au.Has d.length C x := fun i => by
    rw [hW]
    exact Au.met_all (Au.quo d C) (Au.Has d.length C) (fun s b t h1 h2 => Au.has_go hf.row hmin s b t h1 h2) c0 ⟨0, hf.pos, hc0⟩ i
  have hfin : ∀ c, W.fin c = (Au.ofL d).fin ((C.row c).getD 0 0) := fun c => by rw [hW]; rfl
  have hsame : W.same = fun a b => decide (a = b) := by rw [hW]; rfl
  rw [← hW] at hmetn hend hql
  obtain ⟨X, bo, ba, vm, vw, vq, hS⟩ := hC
  obtain ⟨b0, _, b2, _, _, _⟩ := hS.cells
  obtain ⟨am, cm, rfl, _, _, hm4⟩ := hS.mem.form
  have hX0 : 0 < X.length := by
    obtain ⟨_, _, hz⟩ := hI.rep (s := 0) (c := c0) (by omega) hc0
    obtain ⟨x, hx⟩ := List.exists_mem_of_length_pos hz
    obtain ⟨j, hj, e⟩ := List.getElem_of_mem hx
    have := Au.row_lt (C := C) (c := c0) (i := j) (s := x) (by rw [List.getElem?_eq_getElem hj, e])
    rw [hS.lenX]
    omega
  obtain ⟨gm, rfl, lgm, _, _, hmc⟩ := hm4 hX0
  have hXn : X.length ≤ n + 1 := by
    have := Au.few_classes hI.ok hI.ne
    rw [hS.lenX]
    omega
  have hplt := hS.plt
  have hbolt := hS.of.lt
  have HCW : Hid (∀ W, Below w.heap.size w W → W.cell? ⟨p, 0, none⟩ = some (.slice (some ⟨bo, 0, none⟩) n n) ∧ W.cell? ⟨p, 2, none⟩ = some (.slice (some ⟨gm, 0, none⟩) X.length cm) ∧ ∀ s, s < n → W.cell? ⟨bo, s, none⟩ = some (.int .i64 (C.of s))) := fun W hb =>
    ⟨(cell_same (a := ⟨p, 0, none⟩) (hb.block p hplt)).trans b0, (cell_same (a := ⟨p, 2, none⟩) (hb.block p hplt)).trans b2, fun s hs => (cell_same (a := ⟨bo, s, none⟩) (hb.block bo hbolt)).trans (hS.of.cell hs)⟩
  have HRW : Hid (∀ c, Au.Has d.length C c → ∃ gr len cp rep, c < X.length ∧ 0 < len ∧ rep < n ∧ rep = (C.row c).getD 0 0 ∧ ∀ W, Below w.heap.size w W → W.cell? ⟨gm, c, none⟩ = some (.slice (some ⟨gr, 0, none⟩) len cp) ∧ W.cell? ⟨gr, 0, none⟩ = some (.int .i64 (rep : Int))) := by
    rintro c ⟨s, hs, hcs⟩
    obtain ⟨hr1, hr2, hr3⟩ := hI.rep hs hcs
    have hcX : c < X.length := by
      obtain ⟨x, hx⟩ := List.exists_mem_of_length_pos hr3
      obtain ⟨j, hj, e⟩ := List.getElem_of_mem hx
      rw [hS.lenX]
      exact Au.row_lt (C := C) (c := c) (i := j) (s := x) (by rw [List.getElem?_eq_getElem hj, e])
    obtain ⟨ar, cp, hx, _, _, hr4⟩ := (hS.each c hcX).form
    obtain ⟨gr, rfl, lgr, _, _, hrx⟩ := hr4 hr3
    refine ⟨gr, (C.row c).length, cp, (C.row c).getD 0 0, hcX, hr3, by omega, rfl, fun W hb => ⟨?_, ?_⟩⟩
    · rw [← hx]
      exact (cell_same (a := ⟨gm, c, none⟩) (hb.block gm lgm)).trans (hmc c X[c] (List.getElem?_eq_getElem hcX))
    · exact (cell_same (a := ⟨gr, 0, none⟩) (hb.block gr lgr)).trans (hrx 0 _ (by
        cases hrow : C.row c with
        | nil => rw [hrow] at hr3; simp at hr3
        | cons x r => rfl))
  have HEND := Lib.hid hend
  have HQL := Lib.hid hql
  have HREFL := Lib.hid hrefl
  have HHAS := Lib.hid hhas
  have HFIN := Lib.hid hfin
  have HSAME := Lib.hid hsame
  have HMETN := Lib.hid hmetn
  have HOF := Lib.hid hmin
  rw [hd]
  clear hdc hd hf h0 hS b0 b2 hm4 hmc hI hq hend hql hrefl hhas hfin hsame hmetn hW hmin
  have hc0X : c0 < X.length := by
    obtain ⟨_, _, _, _, h, _⟩ := HRW.out c0 ⟨0, by rw [HDN.out]; exact hn0, hc0⟩
    exact h
  have k0 := keyN_of (c := c0) (by omega)
  have hmm := @run_makeMap Try.prog
  have hbA0 : Below w.heap.size w (w.alloc (.map #[] 0)).drew := ((Below.refl _ _).alloc (Nat.le_refl _) _).drew
  have hbB0 : Below w.heap.size w ((w.alloc (.map #[] 0)).alloc (.cells #[.int .i64 (c0 : Int)] 3)).drew := (((Below.refl _ _).alloc (Nat.le_refl _) _).alloc (by simp) _).drew
  have hbC0 : Below w.heap.size w ((w.alloc (.cells #[.int .i64 (c0 : Int)] 3)).alloc (.map #[] 0)).drew := (((Below.refl _ _).alloc (Nat.le_refl _) _).alloc (by simp) _).drew
  have hbD0 : Below w.heap.size w (w.alloc (.cells #[.int .i64 (c0 : Int)] 3)).drew := ((Below.refl _ _).alloc (Nat.le_refl _) _).drew
  obtain ⟨wA, rA, hmA, hgA⟩ := run_updG (w.alloc (.map #[] 0)).drew lawIn Try.underlying121 ((mapG_made 3 w).keep rfl) (by decide) k0 (.int .i64 0)
  obtain ⟨wB, rB, hmB, hgB⟩ := run_updG ((w.alloc (.map #[] 0)).alloc (.cells #[.int .i64 (c0 : Int)] 3)).drew lawIn Try.underlying121 ((mapG_made 3 w).keep (Go.Deep.blk_alloc_lt _ _ _ (by simp))) (by decide) k0 (.int .i64 0)
  obtain ⟨wC, rC, hmC, hgC⟩ := run_updG ((w.alloc (.cells #[.int .i64 (c0 : Int)] 3)).alloc (.map #[] 0)).drew lawIn Try.underlying121 ((mapG_made 3 (w.alloc (.cells #[.int .i64 (c0 : Int)] 3))).keep rfl) (by decide) k0 (.int .i64 0)
  have mapS : ∀ {W : World} {mb : Nat}, MapG 3 W mb 1 (updG (fun _ => none) (keyN c0) (some (.int .i64 0))) → MapN W mb [c0] := fun {W mb} h => by
    refine mapN_new (E := []) (F := fun _ => none) (b := c0) h (fun s => rfl) rfl
  have hszA : w.heap.size + 1 ≤ wA.heap.size := by have := hgA.size; simp at this; omega
  have hbA : Below w.heap.size w wA := hbA0.grown hgA (by simp) (fun k hk => by cases hk; exact Nat.le_refl _)
  have hbB : Below w.heap.size w wB := hbB0.grown hgB (by simp; omega) (fun k hk => by cases hk; exact Nat.le_refl _)
  have hbC : Below w.heap.size w wC := hbC0.grown hgC (by simp; omega) (fun k hk => by cases hk; simp)
  have hbA2 : Below w.heap.size w (wA.alloc (.cells #[.int .i64 (c0 : Int)] 3)) := hbA.alloc hbA.size _
  have HNA : Hid (No w (wA.alloc (.cells #[.int .i64 (c0 : Int)] 3)) w.heap.size (fun k => if k = w.heap.size then 3 else if k = wA.heap.size then 2 else 0) (.slice (some ⟨wA.heap.size, 0, none⟩) 1 1) (.slice none 0 0) [c0] [] []) := by
    obtain ⟨F', hm', hF'⟩ := mapS hmA
    exact no_start w _ _ _ c0 ⟨F', hm'.keep (Go.Deep.blk_alloc_lt _ _ _ (by omega)), hF'⟩ hbA2 (Go.Deep.blk_alloc_new _ _) (Nat.le_refl _) (by omega) (by omega)
  have HNB : Hid (No w wB w.heap.size (fun k => if k = w.heap.size then 3 else if k = w.heap.size + 1 then 2 else 0) (.slice (some ⟨w.heap.size + 1, 0, none⟩) 1 1) (.slice none 0 0) [c0] [] []) := by
    refine no_start w _ _ _ c0 (mapS hmB) hbB ?_ (Nat.le_refl _) (by omega) (by omega)
    have h1 := Go.Deep.blk_alloc_new (w.alloc (.map #[] 0)) (.cells #[.int .i64 (c0 : Int)] 3)
    have h2 : (w.alloc (.map #[] 0)).heap.size = w.heap.size + 1 := by simp
    rw [h2] at h1
    exact (hgB.block (w.heap.size + 1) (by simp) (fun e => by simp at e)).trans h1
  have HNC : Hid (No w wC (w.heap.size + 1) (fun k => if k = w.heap.size + 1 then 3 else if k = w.heap.size then 2 else 0) (.slice (some ⟨w.heap.size, 0, none⟩) 1 1) (.slice none 0 0) [c0] [] []) := by
    have h2 : (w.alloc (.cells #[.int .i64 (c0 : Int)] 3)).heap.size = w.heap.size + 1 := by simp
    rw [h2] at hmC hgC
    refine no_start w _ _ _ c0 (mapS hmC) hbC ?_ (by omega) (Nat.le_refl _) (by omega)
    have h1 := (Go.Deep.blk_alloc_lt (w.alloc (.cells #[.int .i64 (c0 : Int)] 3)) (.map #[] 0) w.heap.size (by simp)).trans (Go.Deep.blk_alloc_new w (.cells #[.int .i64 (c0 : Int)] 3))
    exact (hgC.block w.heap.size (by simp; omega) (fun e => by simp at e)).trans h1
  have HK : Hid (∀ W, Below w.heap.size w W → W.cell? ⟨p, 0, none⟩ = some (.slice (some ⟨bo, 0, none⟩) n n) ∧ W.cell? ⟨bo, 0, none⟩ = some (.int .i64 (c0 : Int))) := fun W hb => by
    obtain ⟨h1, _, h3⟩ := HCW.out W hb
    exact ⟨h1, by rw [h3 0 hn0, hc0]⟩
  have h2C : (w.alloc (.cells #[.int .i64 (c0 : Int)] 3)).heap.size = w.heap.size + 1 := by simp
  rw [h2C] at rC
  clear hmA hgA hmB hgB hmC hgC mapS h2C
  go_enter Try.func54, Try.ntmps54
  go_upto_region 1 with (fail)
  go_cut [5, 6] (fun s5 s6 wx => ∃ mb g κ, s5 = .map (some mb) ∧ s6 = .slice (some ⟨g, 0, none⟩) 1 1 ∧ Hid (No w wx mb κ s6 (.slice none 0 0) [c0] [] []))
  case first =>
    go_region_held3 (fun wx => wx.cell? ⟨p, 0, none⟩ = some (.slice (some ⟨bo, 0, none⟩) n n) ∧ wx.cell? ⟨bo, 0, none⟩ = some (.int .i64 (c0 : Int))) (first | exact HK.out _ (Below.refl _ _).drew | exact HK.out _ hbA0 | exact HK.out _ hbB0 | exact HK.out _ hbC0 | exact HK.out _ hbD0 | exact HK.out _ hbA | exact HK.out _ hbB | exact HK.out _ hbC | exact HK.out _ hbA2) (fail)
    all_goals
      go_wp2_with fail
      go_meet
      first
        | exact ⟨_, _, _, rfl, rfl, HNA⟩
        | exact ⟨_, _, _, rfl, rfl, HNB⟩
        | exact ⟨_, _, _, rfl, rfl, HNC⟩
  case rest =>
    obtain ⟨mb, g, κ, rfl, rfl, H0⟩ := hcut
    have H1 : Hid (No w wc mb κ (.slice (some ⟨g, 0, none⟩) 1 1) (.slice none 0 0) (W.met c0 0) [] (W.out c0 0)) := H0
    clear rA rB rC hbA0 hbB0 hbC0 hbD0 hbA hbB hbC hbA2 HNA HNB HNC HK hszA H0 hmm k0 hc0X
    go_wp2_with fail
    go_loopg [6, 7] (n + 1) (fun gg s6 s7 wx => ∃ (i : Nat) (κ : Nat → Nat) (L : List (Bool × Value)), i ≤ n ∧ gg = n + 1 - i ∧ i ≤ (W.met c0 i).length ∧ Hid (No w wx mb κ s6 s7 (W.met c0 i) L (W.out c0 i)))
    case atStart => exact ⟨0, _, [], Nat.zero_le _, rfl, Nat.zero_le _, H1⟩
    case round =>
      clear H1
      obtain ⟨i, κ, L, hi, rfl, hil, hNo⟩ := hrel
      have hLi : L.length = i := by rw [hNo.out.ot.len, Au.out_length]; omega
      have hF1 := hNo.out.tm.texts.form
      have hF2 := hNo.out.ot.outs.form
      rw [hLi] at hF2
      obtain ⟨a6, cp6, rfl, _, _, ht3⟩ := hF1
      obtain ⟨a7, cp7, rfl, _, _, _⟩ := hF2
      have hmn : (W.met c0 i).length ≤ n := by
        have := HMETN.out i
        rw [HDN.out] at this
        exact this
      by_cases him : i < (W.met c0 i).length
      · have j1 : (i : Int) < (((W.met c0 i).length : Nat) : Int) := by omega
        obtain ⟨g6, rfl, _, _, _, hc6⟩ := ht3 (by omega)
        have r1 := hc6 i (.int .i64 ((W.met c0 i)[i] : Int)) (by simp [natsV, him])
        have hai : Hid ((W.met c0 i)[i]? = some (W.met c0 i)[i]) := List.getElem?_eq_getElem him
        have hSL := Lib.hid (fun Z h => Au.states_leads W HREFL.out c0 _ i hai.out Z h)
        obtain ⟨gr, len, cpr, rep, hcX, hlen, hrn, hrep, hcells⟩ := HRW.out _ (HHAS.out i _ (List.getElem_mem him))
        have hfr : Hid (W.fin (W.met c0 i)[i] = (Au.ofL d).fin rep) := by rw [hrep]; exact HFIN.out _
        have hqr : Hid (Au.Leads W (W.met c0 i)[i] 0 (Au.trs C (Au.arcsOf d rep))) := by rw [hrep]; exact HQL.out _
        have hgl : Hid (i + 1 ≤ (W.met c0 (i + 1)).length) := by
          obtain ⟨r, hr⟩ := Au.met_grows W c0 i
          show _ ≤ _
          rw [hr, List.length_append]
          omega
        have hrd : rep < d.length := by rw [HDN.out]; exact hrn
        obtain ⟨e1, va, e2, hA⟩ := HDC.out rep hrd
        have hao : Au.arcsOf d rep = d[rep].arcs := by simp [Au.arcsOf, List.getElem?_eq_getElem hrd]
        have hfo : (Au.ofL d).fin rep = d[rep].fin := by simp [Au.ofL, List.getElem?_eq_getElem hrd]
        rw [← hao] at hA
        rw [hfo] at hfr
        have hrw : Hid (Au.Row n 256 (Au.arcsOf d rep)) := by
          have h := HROW.out rep
          rw [HDN.out] at h
          exact h
        have hm2 : (Au.arcsOf d rep).length ≤ 256 := by have := Au.row_few hrw.out; omega
        obtain ⟨aa, ca, rfl, _, _, hac⟩ := hA
        obtain ⟨m, hm⟩ : ∃ m, m = (Au.arcsOf d rep).length := ⟨_, rfl⟩
        have HM := Lib.hid hm
        have HAC := Lib.hid hac
        rw [← hm] at hm2 e2
        generalize d[rep].fin = fin at *
        have HS : Hid (∀ W', Below wr.heap.size wr W' → W'.cell? ⟨p, 2, none⟩ = some (.slice (some ⟨gm, 0, none⟩) X.length cm) ∧ W'.cell? ⟨g6, i, none⟩ = some (.int .i64 ((W.met c0 i)[i] : Int)) ∧ W'.cell? ⟨gm, (W.met c0 i)[i], none⟩ = some (.slice (some ⟨gr, 0, none⟩) len cpr) ∧ W'.cell? ⟨gr, 0, none⟩ = some (.int .i64 (rep : Int)) ∧ W'.cell? ⟨gd, od + rep * 2, none⟩ = some (.bool fin) ∧ W'.cell? ⟨gd, od + rep * 2 + 1, none⟩ = some (.slice aa m ca)) := fun W' hb => by
          have hbw : Below w.heap.size w W' := chain hNo.out.bs.below hb
          obtain ⟨q1, q2⟩ := hcells W' hbw
          obtain ⟨_, q3, _⟩ := HCW.out W' hbw
          exact ⟨q3, (cell_same (a := ⟨g6, i, none⟩) (hb.block g6 (by assumption))).trans r1, q1, q2, (cell_same (a := ⟨gd, od + rep * 2, none⟩) (hbw.block gd lgd)).trans e1, (cell_same (a := ⟨gd, od + rep * 2 + 1, none⟩) (hbw.block gd lgd)).trans e2⟩
        have hMl : Hid ((W.met c0 i).length ≤ n) := hmn
        have hLd0 := Lib.hid hLi
        have j2 : ((W.met c0 i)[i] : Int) < (X.length : Int) := by omega
        have j3 : (0 : Int) < (len : Int) := by omega
        have j4 : (rep : Int) < (n : Int) := by omega
        clear hc6 ht3 hai hcells e1 e2 hac hao hfo hrep hm r1
        generalize (W.met c0 i)[i] = cc at *
        go_upto_region 4 with (fail)
        go_region_held3 (fun W' => W'.cell? ⟨p, 2, none⟩ = some (.slice (some ⟨gm, 0, none⟩) X.length cm) ∧ W'.cell? ⟨g6, i, none⟩ = some (.int .i64 (cc : Int)) ∧ W'.cell? ⟨gm, cc, none⟩ = some (.slice (some ⟨gr, 0, none⟩) len cpr) ∧ W'.cell? ⟨gr, 0, none⟩ = some (.int .i64 (rep : Int)) ∧ W'.cell? ⟨gd, od + rep * 2, none⟩ = some (.bool fin) ∧ W'.cell? ⟨gd, od + rep * 2 + 1, none⟩ = some (.slice aa m ca)) (first | exact HS.out _ (Below.refl _ _).drew | exact HS.out _ ((Below.refl _ _).alloc (Nat.le_refl _) _).drew) (fail)
        have HO1 : Hid (No w (wr.alloc (.cells #[.bool fin, .slice aa m ca] 39)).drew mb (paint κ wr.heap.size 9) (.slice (some ⟨g6, 0, none⟩) (W.met c0 i).length cp6) (.slice a7 i cp7) (W.met c0 i) L (W.out c0 i)) := (hNo.out.step (Step.of_alloc wr _) (by decide)).drew
        have hDb : Hid ((wr.alloc (.cells #[.bool fin, .slice aa m ca] 39)).drew.heap[wr.heap.size]? = some (.cells #[.bool fin, .slice aa m ca] 39 (0, 0))) := Go.Deep.blk_alloc_new _ _
        clear hNo HS
        generalize (wr.alloc (.cells #[.bool fin, .slice aa m ca] 39)).drew = w2 at *
        generalize wr.heap.size = D at *
        generalize paint κ D 9 = κ2 at *
        have d0 : w2.cell? ⟨D, 0, none⟩ = some (.bool fin) := by have h := hDb.out; simp [World.cell?, h]
        have d1 : w2.cell? ⟨D, 1, none⟩ = some (.slice aa m ca) := by have h := hDb.out; simp [World.cell?, h]
        have hDl : D < w2.heap.size := (Array.getElem?_eq_some_iff.1 hDb.out).1
        have d2 : (w2.alloc (.cells #[.bool fin, .slice none 0 0] 39)).cell? ⟨D, 1, none⟩ = some (.slice aa m ca) := (World.cell?_alloc_past _ _ _ hDl).trans d1
        have HI1 : Hid (Ni w (w2.alloc (.cells #[.bool fin, .slice none 0 0] 39)) mb w2.heap.size (paint κ2 w2.heap.size 7) (.slice (some ⟨g6, 0, none⟩) (W.met c0 i).length cp6) (.slice a7 i cp7) (.slice none 0 0) (Au.lp W C (W.met c0 i) ((Au.arcsOf d rep).take 0)).1 L (W.out c0 i) fin (Au.lp W C (W.met c0 i) ((Au.arcsOf d rep).take 0)).2) := HO1.out.open fin
        clear HO1 hDb
        go_wp2_with fail
        clear d0 d1 d2
        generalize w2.alloc (.cells #[.bool fin, .slice none 0 0] 39) = w3 at *
        generalize w2.heap.size = sb at *
        go_loopg [6, 57] m (fun gg s6 s57 wx => ∃ (k : Nat) (κ : Nat → Nat) (va : Value), k ≤ m ∧ gg = m - k ∧ s57 = .int .i64 k ∧ Hid (Ni w wx mb sb κ s6 (.slice a7 i cp7) va (Au.lp W C (W.met c0 i) ((Au.arcsOf d rep).take k)).1 L (W.out c0 i) fin (Au.lp W C (W.met c0 i) ((Au.arcsOf d rep).take k)).2))
        case atStart => exact ⟨0, _, _, Nat.zero_le _, rfl, rfl, HI1⟩
        case round =>
          clear HI1
          obtain ⟨k, κ, va, hk, rfl, rfl, hNi⟩ := hrel
          by_cases hkm : k < m
          · have j5 : (k : Int) < (m : Int) := by omega
            have hkl : k < (Au.arcsOf d rep).length := by rw [← HM.out]; exact hkm
            obtain ⟨g2, o2, rfl, lg2, _, hcc⟩ := HAC.out (by omega)
            obtain ⟨x1, x2, x3⟩ := hcc k hkl
            have hbl := hNi.out.bs.below
            have y1 := (cell_same (a := ⟨g2, o2 + k * 3, none⟩) (hbl.block g2 lg2)).trans x1
            have y2 := (cell_same (a := ⟨g2, o2 + k * 3 + 1, none⟩) (hbl.block g2 lg2)).trans x2
            have y3 := (cell_same (a := ⟨g2, o2 + k * 3 + 2, none⟩) (hbl.block g2 lg2)).trans x3
            obtain ⟨z1, z2, z3, z4, z5⟩ := hrw.out.1 k hkl
            have hnx := Lib.hid (Au.lp_snoc W C (W.met c0 i) ((Au.arcsOf d rep).take k) (Au.arcsOf d rep)[k])
            rw [← List.take_succ_eq_append_getElem hkl] at hnx
            obtain ⟨l1, l2⟩ := Au.lp_len W C (W.met c0 i) ((Au.arcsOf d rep).take k)
            have l3 := List.length_take_le k (Au.arcsOf d rep)
            have hah := Lib.hid (Au.lp_hi W C (W.met c0 i) ((Au.arcsOf d rep).take k) (fun a ha => by
              obtain ⟨j, hj, rfl⟩ := List.getElem_of_mem (List.mem_of_mem_take ha)
              have := hrw.out.1 j hj
              omega))
            clear x1 x2 x3 hcc hbl
            generalize (Au.arcsOf d rep)[k] = arc at *
            obtain ⟨alo, ahi, ato⟩ := arc
            dsimp only at y1 y2 y3 hnx z1 z2 z3 z4 z5
            obtain ⟨lo, rfl⟩ : ∃ x : Nat, alo = (x : Int) := ⟨alo.toNat, by omega⟩
            obtain ⟨hi', rfl⟩ : ∃ x : Nat, ahi = (x : Int) := ⟨ahi.toNat, by omega⟩
            obtain ⟨tt, rfl⟩ : ∃ x : Nat, ato = (x : Int) := ⟨ato.toNat, by omega⟩
            simp only [Int.toNat_natCast] at hnx
            have htn : tt < n := by omega
            have hof := HOF.out tt (by rw [HDN.out]; exact htn)
            have hbd : ∀ b : Nat, C.of tt = (b : Int) → b ≤ 20000 := fun b hb => by
              obtain ⟨_, _, _, _, h, _⟩ := HRW.out b ⟨tt, by rw [HDN.out]; exact htn, hb⟩
              omega
            obtain ⟨x, hx⟩ : ∃ x, C.of tt = x := ⟨_, rfl⟩
            rw [hx] at hof hbd hnx
            have HI2 := Lib.hid (hNi.out.step (Step.of_alloc wr (.cells #[.int .i64 (lo : Int), .int .i64 (hi' : Int), .int .i64 (tt : Int)] 41)) (Nat.le_refl 9)).drew
            have hDb : Hid ((wr.alloc (.cells #[.int .i64 (lo : Int), .int .i64 (hi' : Int), .int .i64 (tt : Int)] 41)).heap[wr.heap.size]? = some (.cells #[.int .i64 (lo : Int), .int .i64 (hi' : Int), .int .i64 (tt : Int)] 41 (0, 0))) := Go.Deep.blk_alloc_new _ _
            have hkD : Hid (paint κ wr.heap.size 9 wr.heap.size = 9) := paint_new _ _ _ _ (Nat.le_refl _)
            have HS2 : Hid (∀ W', Below (wr.alloc (.cells #[.int .i64 (lo : Int), .int .i64 (hi' : Int), .int .i64 (tt : Int)] 41)).heap.size (wr.alloc (.cells #[.int .i64 (lo : Int), .int .i64 (hi' : Int), .int .i64 (tt : Int)] 41)) W' → W'.cell? ⟨p, 0, none⟩ = some (.slice (some ⟨bo, 0, none⟩) n n) ∧ W'.cell? ⟨wr.heap.size, 2, none⟩ = some (.int .i64 (tt : Int)) ∧ W'.cell? ⟨bo, tt, none⟩ = some (.int .i64 x)) := fun W' hb => by
              have hbw : Below w.heap.size w W' := chain hNi.out.bs.below (chain ((Below.refl _ _).alloc (Nat.le_refl _) _) hb)
              obtain ⟨q1, _, q3⟩ := HCW.out W' hbw
              have h := (hb.block wr.heap.size (by simp)).trans hDb.out
              exact ⟨q1, by simp [World.cell?, h], by rw [q3 tt htn, hx]⟩
            have j6 : (tt : Int) < (n : Int) := by omega
            clear hNi hx
            go_upto_region 9 with (fail)
            generalize wr.alloc (.cells #[.int .i64 (lo : Int), .int .i64 (hi' : Int), .int .i64 (tt : Int)] 41) = w4 at *
            generalize wr.heap.size = D2 at *
            generalize paint κ D2 9 = κ4 at *
            go_region_held3 (fun W' => W'.cell? ⟨p, 0, none⟩ = some (.slice (some ⟨bo, 0, none⟩) n n) ∧ W'.cell? ⟨D2, 2, none⟩ = some (.int .i64 (tt : Int)) ∧ W'.cell? ⟨bo, tt, none⟩ = some (.int .i64 x)) (first | exact HS2.out _ (Below.refl _ _).drew) (fail)
            have hDb2 : Hid (w4.drew.heap[D2]? = some (.cells #[.int .i64 (lo : Int), .int .i64 (hi' : Int), .int .i64 (tt : Int)] 41 (0, 0))) := hDb.out
            clear HS2 hDb y1 y2 y3
            generalize w4.drew = w5 at *
            by_cases hx1 : x = -1
            · subst hx1
              rw [if_pos rfl] at hnx
              clear hDb2 hkD
              go_wp2_with fail
              go_roundg (m - (k + 1))
              case rel => exact ⟨k + 1, _, _, by omega, rfl, by go_num, by rw [hnx.out]; exact HI2⟩
              case measure => omega
            · rw [if_neg hx1] at hnx
              obtain ⟨b, rfl⟩ : ∃ b : Nat, x = (b : Int) := ⟨x.toNat, by omega⟩
              have hb2 := hbd b rfl
              have hk2 := keyN_of (c := b) (by omega)
              rw [Int.toNat_natCast] at hnx
              have hnx1 : Hid ((Au.lp W C (W.met c0 i) ((Au.arcsOf d rep).take (k + 1))).1 = if Au.idxN (Au.lp W C (W.met c0 i) ((Au.arcsOf d rep).take k)).1 b = (Au.lp W C (W.met c0 i) ((Au.arcsOf d rep).take k)).1.length then (Au.lp W C (W.met c0 i) ((Au.arcsOf d rep).take k)).1 ++ [b] else (Au.lp W C (W.met c0 i) ((Au.arcsOf d rep).take k)).1) := by
                show _ = _
                rw [hnx.out]
                unfold Au.Walk.lead
                rw [HSAME.out]
                rfl
              have hnx2 : Hid ((Au.lp W C (W.met c0 i) ((Au.arcsOf d rep).take (k + 1))).2 = Au.joined (Au.lp W C (W.met c0 i) ((Au.arcsOf d rep).take k)).2 lo hi' (Au.idxN (Au.lp W C (W.met c0 i) ((Au.arcsOf d rep).take k)).1 b)) := by
                show _ = _
                rw [hnx.out]
                unfold Au.Walk.lead
                rw [HSAME.out]
                rfl
              have hidl := Au.idxN_le (Au.lp W C (W.met c0 i) ((Au.arcsOf d rep).take k)).1 b
              obtain ⟨a6', cp6', rfl, _, _, _⟩ := HI2.out.tm.texts.form
              have hElen : (Au.lp W C (W.met c0 i) ((Au.arcsOf d rep).take k)).1.length ≤ 20512 := by omega
              have harl : (Au.lp W C (W.met c0 i) ((Au.arcsOf d rep).take k)).2.length ≤ 1000 := by omega
              clear hnx hbd hof l1 l2 l3
              generalize (Au.lp W C (W.met c0 i) ((Au.arcsOf d rep).take k)).1 = E at *
              generalize (Au.lp W C (W.met c0 i) ((Au.arcsOf d rep).take k)).2 = ar at *
              obtain ⟨F', hMF, hFE⟩ := HI2.out.tm.map
              have hF1 := hFE b
              have HFE := Lib.hid hFE
              have HMF := Lib.hid hMF
              have hq : Hid (D2 < w5.heap.size ∧ κ4 D2 = 9) := ⟨(Array.getElem?_eq_some_iff.1 hDb2.out).1, hkD.out⟩
              have d0 : w5.cell? ⟨D2, 0, none⟩ = some (.int .i64 (lo : Int)) := by have h := hDb2.out; simp [World.cell?, h]
              have d1 : w5.cell? ⟨D2, 1, none⟩ = some (.int .i64 (hi' : Int)) := by have h := hDb2.out; simp [World.cell?, h]
              have HLE : Hid (∀ wx κx wy κy, Step κ4 3 w5 wx κx → Step κx 2 wx wy κy → wy.cell? ⟨D2, 0, none⟩ = some (.int .i64 (lo : Int)) ∧ wy.cell? ⟨D2, 1, none⟩ = some (.int .i64 (hi' : Int))) := fun wx κx wy κy h h' => by
                have hb1 := h.block D2 hq.out.1 (by rw [hq.out.2]; decide)
                have hc1 := (h.col D2 hq.out.1).trans hq.out.2
                have hb2 := h'.block D2 (Nat.lt_of_lt_of_le hq.out.1 h.size) (by rw [hc1]; decide)
                exact ⟨(cell_same (a := ⟨D2, 0, none⟩) (hb2.trans hb1)).trans d0, (cell_same (a := ⟨D2, 1, none⟩) (hb2.trans hb1)).trans d1⟩
              have HJO : Hid (∀ wx vt' κ' E' (k' : Nat), Ni w wx mb sb κ' vt' (.slice a7 i cp7) va E' L (W.out c0 i) fin ar →
                (wx.cell? ⟨sb, 1, none⟩ = some va) ∧ Calls Try.prog 45 #[va, .agg #[.int .i64 (lo : Int), .int .i64 (hi' : Int), .int .i64 (k' : Int)]] wx fun e w' => ∃ a8 n8 cp8, e = .returned (.slice a8 n8 cp8) ∧ w'.cell? ⟨sb, 1, none⟩ = some va ∧ w'.frozen? ⟨sb, 1, none⟩ = false ∧
                  Hid (Ni w (w'.setCell ⟨sb, 1, none⟩ (.slice a8 n8 cp8)) mb sb (paint κ' wx.heap.size 6) vt' (.slice a7 i cp7) (.slice a8 n8 cp8) E' L (W.out c0 i) fin (Au.joined ar lo hi' k'))) := fun wx vt' κ' E' k' h => by
                refine ⟨h.cs.cells.2.1, (joined_any wx 0 va ar lo hi' k' h.cs.arcs.own (Nat.zero_le _) harl hah.out ⟨by omega, by omega⟩).mono fun e w' hh => ?_⟩
                obtain ⟨v', rfl, ho, ht⟩ := hh
                obtain ⟨a8, cp8, rfl, _⟩ := ho.opened
                obtain ⟨⟨s1, s2⟩, s3⟩ := h.grow ht ho
                exact ⟨a8, _, cp8, rfl, s1, s2, s3⟩
              clear hFE hMF
              by_cases hix : Au.idxN E b = E.length
              · unfold plN at hF1
                rw [if_pos hix] at hF1
                have HPL := Lib.hid (fun wx (h5 : w5.grownBy wx (some mb)) => HI2.out.place h5)
                have HPU := Lib.hid (fun wx h5 κ' h5s wy vt' hr6 hs6 => HI2.out.push (b := b) (w' := wx) (κ' := κ') (w2 := wy) (vt' := vt') (mapN_new h5 HFE.out hix) h5s hr6 hs6)
                rw [hix, if_pos rfl] at hnx1
                rw [hix] at hnx2
                clear hix HI2 hDb2 d0 d1
                obtain ⟨ii, hi1, hz0, hz1, hz2⟩ := info_parts Try.infoN
                go_wp2_with (first | (at_lookup; refine wpList_lookOkG _ rfl _ _ 121 3 3 rfl lawIn Try.underlying121 (.int .i64 0) zeroInt mb _ F' rfl HMF.out (.int .i64 (b : Int)) (keyN b) rfl hk2 ?_; rw [hF1]; dsimp only [Option.getD, Option.isSome]) | (at_mapUpdate; refine wpList_storeG _ rfl _ _ _ 121 3 3 rfl lawIn Try.underlying121 mb E.length F' rfl HMF.out (by unfold maxLen; omega) (.int .i64 (b : Int)) (keyN b) rfl hk2 _ rfl ?_; intro wx hm5 hg5; have HM5 := Lib.hid hm5; have HS5 := Lib.hid (HPL.out wx hg5); clear hm5 hg5) | (at_builtin; refine wpList_pushC rfl _ _ 54 3 rfl ii _ 1 8 Try.underlying54 hi1 hz0 hz1 hz2 rfl (by decide) _ 2 _ E.length (natsV E) rfl HS5.out.2 [.int .i64 (b : Int)] rfl (one_of rfl) rfl (by omega) (by omega) ?_; intro g9 cp9 wy hr6 hs6; have HM6 := Lib.hid (HPU.out wx HM5.out _ HS5.out.1 wy _ hr6 hs6); obtain ⟨y0, y1⟩ := HLE.out wx _ wy _ HS5.out.1 hs6; obtain ⟨y2, hjo⟩ := HJO.out wy _ _ _ E.length HM6.out; have HJ6 := Lib.hid hjo; clear hr6 hs6 hjo) | (go_at_call 45; refine HJ6.out.mono ?_; rintro e w7 ⟨a8, n8, cp8, rfl, s1, s2, HM7⟩))
                go_roundg (m - (k + 1))
                case rel => exact ⟨k + 1, _, _, by omega, rfl, by go_num, by rw [hnx1.out, hnx2.out]; exact HM7⟩
                case measure => omega
              · unfold plN at hF1
                rw [if_neg hix] at hF1
                rw [if_neg hix] at hnx1
                obtain ⟨y2, hjo⟩ := HJO.out _ _ _ E (Au.idxN E b) HI2.out
                have HJ6 := Lib.hid hjo
                clear hix hjo hidl
                generalize Au.idxN E b = j at *
                go_wp2_with (first | (at_lookup; refine wpList_lookOkG _ rfl _ _ 121 3 3 rfl lawIn Try.underlying121 (.int .i64 0) zeroInt mb _ F' rfl HMF.out (.int .i64 (b : Int)) (keyN b) rfl hk2 ?_; rw [hF1]; dsimp only [Option.getD, Option.isSome]) | (go_at_call 45; refine HJ6.out.mono ?_; rintro e w7 ⟨a8, n8, cp8, rfl, s1, s2, HM7⟩))
                go_roundg (m - (k + 1))
                case rel => exact ⟨k + 1, _, _, by omega, rfl, by go_num, by rw [hnx1.out, hnx2.out]; exact HM7⟩
                case measure => omega
          · obtain rfl : k = m := by omega
            have hsl := hSL.out _ hqr.out
            rw [← Au.lp_leads] at hsl
            obtain ⟨m1, m2⟩ := hsl
            rw [hfr.out] at m2
            have htk : (Au.arcsOf d rep).take k = Au.arcsOf d rep := List.take_of_length_le (by rw [HM.out]; exact Nat.le_refl _)
            rw [htk, m1] at hNi
            have HN2 := Lib.hid m2
            clear m1 m2 htk
            generalize (Au.lp W C (W.met c0 i) (Au.arcsOf d rep)).2 = ar' at *
            have hcs := hNi.out.cs.cells
            obtain ⟨a9, cp9, rfl, _⟩ := hNi.out.cs.arcs.form
            obtain ⟨s0, s1, _⟩ := hcs
            obtain ⟨a6', cp6', rfl, _, _, _⟩ := hNi.out.tm.texts.form
            have HRO : Hid (RowC κ 4 wr 39 2 (.slice a7 i cp7) i (stsV L)) := by
              have h := hNi.out.ot.outs
              rw [hLd0.out] at h
              exact h
            have HCL := Lib.hid (fun vo' w' h1 h2 => hNi.out.close (vo' := vo') (w' := w') (by rw [hLd0.out]; exact h1) h2)
            obtain ⟨ii, hi1, hz0, hz1, hz2⟩ := info_parts Try.infoSt
            clear hNi
            go_wp2_with (at_builtin; refine wpList_pushC rfl _ _ 22 39 rfl ii _ 2 32 Try.underlying22 hi1 hz0 hz1 hz2 rfl (by decide) _ 4 _ i (stsV L) rfl HRO.out [.bool fin, .slice a9 _ cp9] rfl (one_of rfl) rfl (by omega) (by omega) ?_; intro g9 cp10 w6 hr6 hs6; have HM6 := Lib.hid (HCL.out _ w6 hr6 hs6); clear hr6 hs6)
            go_roundg (n + 1 - (i + 1))
            case rel => exact ⟨i + 1, _, _, by omega, by omega, hgl.out, by rw [← HN2.out]; exact HM6⟩
            case measure => omega
      · have hdn := HEND.out i (by omega)
        have HO := Lib.hid (hNo.out.ot.sto (B := w.heap.size) hNo.out.ap fun g _ hg => by
          apply Classical.byContradiction
          intro h
          have := hNo.out.bs.old g (by omega)
          omega)
        rw [hdn] at HO
        have HB := Lib.hid hNo.out.bs.below
        clear hNo ht3 hdn
        go_wp2_with fail
        go_ret
        exact ⟨_, rfl, HO.out, HB.out⟩
end Go.Proofs.Ytdcofdndkpmpaaa

/-
  The program's least and Least.
-/
namespace Go.Proofs.Ytdcofdndkpmpaaa
open Go.RowKit

theorem run_make_one (w : World) : (Instr.makeSlice 22 (.int .i64 1) (.int .i64 1)).run Try.prog w = .ok (.slice (some ⟨w.heap.size, 0, none⟩) 1 1) (w.alloc (.cells #[.bool false, .slice none 0 0] 39)) := by kernel_rfl

set_option maxRecDepth 100000 in
set_option maxHeartbeats 2000000 in
theorem leastP_any (F : Nat → Prop) (w : World) (u : Value) (d : List Au.St) (hf : Au.Fits d) (hu : StS F w u d) :
    Calls Try.prog 33 #[u] w fun e w' => ∃ v, e = .returned v ∧ StO w.heap.size w' v (Au.least d) ∧ Below w.heap.size w w' := by
  obtain ⟨n, hn⟩ : ∃ n, d.length = n := ⟨_, rfl⟩
  have hn0 : 0 < n := by have := hf.pos; omega
  have HU := Lib.hid hu
  have HBK := Lib.hid (backward_any F w u d n hn hf hu)
  have HAL : Hid (∀ W vb, Below w.heap.size w W → RowsS (fun g => w.heap.size ≤ g) W vb ((List.range n).map (Au.back d)) → _) := fun W vb hb hr => aliveOf_any (fun _ => True) W u vb d n hn hf ((HU.out.below hb).wide fun _ _ _ => trivial) (hr.wide fun _ _ _ => trivial)
  have HCL : Hid (∀ W vb ga, Below w.heap.size w W → RowsS (fun g => w.heap.size ≤ g) W vb ((List.range n).map (Au.back d)) → W.rowIs ga 4 n (fun j => .bool (Au.aliveB d j)) → ¬ Au.Dead (Au.ofL d) (some 0) → _) := fun W vb ga hb hr hal h0 => classesOf_any (fun _ => True) W u vb ga d n hn hf h0 ((HU.out.below hb).wide fun _ _ _ => trivial) (hr.wide fun _ _ _ => trivial) hal
  have HTD : Hid (∀ W p κ C O, Below w.heap.size w W → ¬ Au.Dead (Au.ofL d) (some 0) → ClsM n W p κ C → Au.HInv d O (fun _ => False) C → C.wq = [] → _) := fun W p κ C O hb h0 hC hI hq => told_any (fun _ => True) W u d n p κ C O hn hf h0 ((HU.out.below hb).wide fun _ _ _ => trivial) hC hI hq
  obtain ⟨ad, cd, rfl, hjunk⟩ := hu
  have HDD := Lib.hid (fun h => Au.least_dead hf h)
  clear hjunk hf hn
  go_enter Try.func33, Try.ntmps33
  go_wp2_with fail
  refine HBK.out.mono ?_
  rintro e w1 ⟨vb, rfl, hr1, hb1⟩
  have hln : ((List.range n).map (Au.back d)).length = n := by simp
  have hr2 := hr1
  obtain ⟨ab, cb, hvb, hjunk⟩ := hr1
  rw [hln] at hvb
  subst hvb
  have HR1 := Lib.hid hr2
  have HB1 := Lib.hid hb1
  clear hjunk hb1 hr2 hln
  have H2 := Lib.hid (HAL.out w1 _ HB1.out HR1.out)
  go_wp2_with fail
  refine H2.out.mono ?_
  rintro e w2 ⟨ga, rfl, hga, hal, hb2⟩
  have HB2 : Hid (Below w.heap.size w w2) := chain HB1.out hb2
  have HR2 := Lib.hid (HR1.out.below hb2)
  have HA2 := Lib.hid hal
  have r1 := hal.cell hn0
  clear hb2 hal H2
  cases ha : Au.aliveB d 0 with
  | false =>
    rw [ha] at r1
    have hdead : Au.Dead (Au.ofL d) (some 0) := by
      apply Classical.byContradiction
      intro h
      rw [(Au.aliveB_true d 0).2 h] at ha
      cases ha
    have HE := Lib.hid (HDD.out hdead)
    have hmk := run_make_one
    go_wp2_with fail
    go_ret
    refine ⟨_, rfl, ?_, HB2.out.alloc HB2.out.size _⟩
    rw [HE.out]
    refine ⟨[.slice none 0 0], some ⟨w2.heap.size, 0, none⟩, 1, rfl, rfl, Nat.le_refl _, by omega, fun _ => ⟨w2.heap.size, rfl, by simp, HB2.out.size, ⟨_, _, Go.Deep.blk_alloc_new _ _⟩, fun j hj hj2 => ?_⟩, fun j hj hj2 => ?_, fun j k hj hk hne => ?_⟩
    · obtain rfl : j = 0 := by simp at hj; omega
      exact ⟨cell_at w2 [.bool false, .slice none 0 0] 39 0 _ rfl, cell_at w2 [.bool false, .slice none 0 0] 39 1 _ rfl⟩
    · obtain rfl : j = 0 := by simp at hj; omega
      exact OwnA.nil0 _ _
    · simp at hj hk; omega
  | true =>
    rw [ha] at r1
    have h0 := (Au.aliveB_true d 0).1 ha
    have H3 := Lib.hid (HCL.out w2 _ ga HB2.out HR2.out HA2.out h0)
    clear HBK HAL HCL
    go_wp2_with fail
    refine H3.out.mono ?_
    rintro e w3 ⟨p, κ, C, O, rfl, hC, hq⟩
    have HB3 : Hid (Below w.heap.size w w3) := chain HB2.out hC.base.below
    have H4 := Lib.hid (HTD.out w3 p κ C O HB3.out h0 hC.cls hC.inv hq)
    clear hC hq HTD H3
    go_wp2_with fail
    refine H4.out.mono ?_
    rintro e w4 ⟨v, rfl, hv, hb4⟩
    have H5 := Lib.hid (And.intro hv hb4)
    clear hv hb4 H4
    go_wp2_with fail
    go_ret
    exact ⟨v, rfl, H5.out.1.lower HB3.out.size, chain HB3.out H5.out.2⟩

set_option maxRecDepth 100000 in
set_option maxHeartbeats 2000000 in
theorem LeastP_any (F : Nat → Prop) (w : World) (u : Value) (d : List Au.St) (hu : StS F w u d) :
    Calls Try.prog 21 #[u] w fun e w' => ∃ v, Below w.heap.size w w' ∧ ((Au.Fits d ∧ e = .returned (.tuple #[v, .int .i64 0]) ∧ StS (fun g => w.heap.size ≤ g) w' v (Au.least d)) ∨ (¬ Au.Fits d ∧ e = .returned (.tuple #[.slice none 0 0, .int .i64 3]))) := by
  have HU := Lib.hid hu
  have HCK := Lib.hid (checkP_any F w u d hu)
  have HLS : Hid (Au.Fits d → ∀ W, Below w.heap.size w W → _) := fun hf W hb => leastP_any F W u d hf (HU.out.below hb)
  obtain ⟨ad, cd, rfl, hjunk⟩ := hu
  clear hjunk
  go_enter Try.func21, Try.ntmps21
  go_wp2_with fail
  refine HCK.out.mono ?_
  rintro e w1 ⟨rfl, hb⟩
  have HB1 := Lib.hid hb
  clear hb HCK
  by_cases hc : Au.check d = 0
  · have hf := (Au.check_iff d).1 hc
    have H2 := Lib.hid (HLS.out hf w1 HB1.out)
    have HF := Lib.hid hf
    rw [hc]
    clear hc hf HLS
    go_wp2_with fail
    refine H2.out.mono ?_
    rintro e w2 ⟨v, rfl, hv, hb2⟩
    have H3 := Lib.hid (And.intro hv hb2)
    clear hv hb2 H2
    go_wp2_with fail
    go_ret2
    exact ⟨v, chain HB1.out H3.out.2, .inl ⟨HF.out, rfl, H3.out.1.sts.wide fun g _ hg => Nat.le_trans HB1.out.size hg⟩⟩
  · have hf : Hid (¬ Au.Fits d) := fun h => hc ((Au.check_iff d).2 h)
    have hcb : (Au.check d == 0) = false := by simpa using hc
    generalize Au.check d = ck at *
    clear HLS
    go_wp2_with fail
    go_ret2
    exact ⟨.slice none 0 0, HB1.out, .inr ⟨hf.out, rfl⟩⟩
end Go.Proofs.Ytdcofdndkpmpaaa

/-
  The program's Tight.
-/
namespace Go.Proofs.Ytdcofdndkpmpaaa
open Go.RowKit
namespace Au
theorem sub_go_len {n : List Lo} (s : List Bool) (c : Nat) (t : List Bool) (h : (sub n).plain.go s c = some t) : t.length = n.length := by
  change (if _ then _ else _) = _ at h
  split at h
  · cases h
  · cases h
    exact over_length n s c
end Au
theorem encS_size (S : List Bool) : (encS S).size ≤ 9 * S.length := by
  unfold encS
  refine Nat.le_trans (encI_size_le _) (Nat.mul_le_mul_left _ ?_)
  rw [dl_length, List.length_map]
  unfold Au.idx
  have := List.length_filter_le (fun i => S[i]? == some true) (List.range S.length)
  rw [List.length_range] at this
  exact this
theorem LoS.wide {F G : Nat → Prop} {w : World} {v : Value} {n : List Au.Lo} (h : LoS F w v n) (hm : ∀ g, g < w.heap.size → F g → G g) : LoS G w v n := by
  obtain ⟨a, cap, h1, h2, h3, h4⟩ := h
  refine ⟨a, cap, h1, h2, h3, fun h0 => ?_⟩
  obtain ⟨g, o, h5, h6, h7, h8⟩ := h4 h0
  refine ⟨g, o, h5, h6, hm g h6 h7, fun j hj => ?_⟩
  obtain ⟨c1, ⟨va, c2, hA⟩, vf, c3, hN⟩ := h8 j hj
  exact ⟨c1, ⟨va, c2, hA.wide hm⟩, vf, c3, hN.wide hm⟩
/-- What holds while sets are met. -/
structure TInv (B p bi n : Nat) (u : Value) (d : List Au.Lo) (W : World) : Prop where
  prow : W.heap[p]? = some (.cells #[u, .slice (some ⟨bi, 0, none⟩) n n] 64 (0, 0))
  brow : W.rowIs bi 4 n (fun _ => .bool false)
  lo : LoS (fun g => g < B) W u d
theorem TInv.kept {B p bi n : Nat} {u : Value} {d : List Au.Lo} {W W' : World} (h : TInv B p bi n u d W) (hb : KeptF (fun b => b = bi) W W') (hp : p ≠ bi) (hB : B ≤ bi) (hr : W'.rowIs bi 4 n (fun _ => .bool false)) : TInv B p bi n u d W' :=
  ⟨(hb.block p (Array.getElem?_eq_some_iff.1 h.prow).1 hp).trans h.prow, hr, h.lo.keep hb.size fun g hg hl => hb.block g hl (by omega)⟩
theorem TInv.below {B p bi n : Nat} {u : Value} {d : List Au.Lo} {W W' : World} {C : Nat} (h : TInv B p bi n u d W) (hb : Below C W W') (hp : p < C) (hbi : bi < C) (hB : B ≤ C) : TInv B p bi n u d W' :=
  ⟨(hb.block p hp).trans h.prow, h.brow.of_block (hb.block bi hbi), h.lo.keep hb.size fun g hg _ => hb.block g (by omega)⟩
theorem meets_sets (B p bi n : Nat) (u : Value) (d : List Au.Lo) (w : World) (most : Int) (hdn : d.length = n) (hn : n ≤ 1048576) (hmay : Au.May d) (hbig : ∀ S, (Au.rowsOf d S).flatten.length ≤ 1099511627776) (hm : most ≤ 20000) (h : TInv B p bi n u d w) (hp : p ≠ bi) (hB : B ≤ bi) :
    Calls Try.prog 30 #[.string (encS (Au.first d)), .int .i64 most, .func (.func 32) #[.pointer (some ⟨p, 0, none⟩)] #[]] w (MeetP (Au.sub d).plain (Au.first d) most bi w) := by
  have hpl : p < w.heap.size := (Array.getElem?_eq_some_iff.1 h.prow).1
  refine meet_any (Au.sub d).plain encS (fun s => s.length = n) (TInv B p bi n u d) bi w 32 (.pointer (some ⟨p, 0, none⟩)) (Au.first d) most 20000 (fun s => decide_eq_true rfl) (fun s c t _ hg => (Au.sub_go_len s c t hg).trans hdn) ((Au.first_length d).trans hdn) (fun s t hs ht => ?_) (fun s hs => ?_) (by omega) (.inl hm) h.brow.lt h (fun W W' hW hb => hW.below hb hpl h.brow.lt (by have := h.brow.lt; omega)) (fun args w => rfl) (fun w2 s hw2 hi hs => ?_)
  · show decide (s = t) = decide (encS s = encS t)
    by_cases e : s = t
    · subst e; rw [decide_eq_true rfl, decide_eq_true rfl]
    · rw [decide_eq_false e, decide_eq_false fun e2 => e (encS_inj (hs.trans ht.symm) (by omega) e2)]
  · have := encS_size s
    rw [hs] at this
    omega
  · refine (look_any w2 p bi n u d s hdn hi.prow hi.brow (hi.lo.wide fun g _ hg => by omega) hmay hs (by omega) (hbig s)).mono ?_
    rintro e w' ⟨v, Z, rfl, hcut, hlds, hk, hr⟩
    refine ⟨v, Z.map fun g => (⟨g.lo, g.hi, Au.toSet d g.to⟩ : Au.Trail (List Bool)), rfl, Au.sub_leads hmay s Z hcut, ?_, hk, hi.kept hk hp hB hr⟩
    rw [List.map_map]
    exact hlds

set_option maxRecDepth 100000 in
set_option maxHeartbeats 2000000 in
theorem tightP_any (F : Nat → Prop) (w : World) (u : Value) (d : List Au.Lo) (most : Int) (hu : LoS F w u d) (hn : d.length ≤ 1048576) (hbig : ∀ S, (Au.rowsOf d S).flatten.length ≤ 1099511627776) (hm : most ≤ 20000) :
    Calls Try.prog 15 #[u, .int .i64 most] w fun e w' => ∃ v, e = .returned (.tuple #[v, .int .i64 (Au.tightE d most)]) ∧ StO w.heap.size w' v (Au.tightL d most) ∧ Below w.heap.size w w' := by
  have HIL := Lib.hid (isLoose_any F w u d hu)
  obtain ⟨n, hdn⟩ : ∃ n, d.length = n := ⟨_, rfl⟩
  have hu2 := hu
  obtain ⟨ad, cd, rfl, hjunk⟩ := hu
  rw [hdn] at hu2 HIL hn ⊢
  have HU := Lib.hid hu2
  have HDN := Lib.hid hdn
  have HBIG := Lib.hid hbig
  have HOB := Lib.hid (fun h => Au.tight_out_bad (d := d) (most := most) h)
  have HOO := Lib.hid (fun h => Au.tight_outs (d := d) (most := most) h)
  have hmk := run_make_row' (P := Try.prog) 62 4 (.bool false) 1 Try.underlying62 Try.infoBo rfl .i64 .i64 n (by omega) (by omega)
  clear hjunk hu2 hdn hbig
  go_enter Try.func15, Try.ntmps15
  go_wp2_with fail
  refine HIL.out.mono ?_
  rintro e w1 ⟨rfl, hb⟩
  have HB1 := Lib.hid hb
  clear hb HIL
  cases hmay : Au.may d with
  | false =>
    have HE := Lib.hid (HOB.out (by rw [hmay]; decide))
    go_wp2_with fail
    go_ret2
    refine ⟨.slice none 0 0, ?_, ?_, HB1.out⟩
    · rw [HE.out.1]; rfl
    · rw [HE.out.2]; exact StO.nil _ _
  | true =>
    have hM := (Au.may_true d).1 hmay
    have HE := Lib.hid (HOO.out hmay)
    have HMAY := Lib.hid hM
    have hn0 : 0 < n := by have := hM.pos; rw [HDN.out] at this; exact this
    have HT : Hid (TInv w.heap.size (w1.heap.size + 1) w1.heap.size n (.slice ad n cd) d (((w1.alloc (.cells (madeCells #[.bool false] n) 4)).alloc (.cells #[.slice ad n cd, .slice (some ⟨w1.heap.size, 0, none⟩) n n] 64)).alloc (.cells #[.int .i64 0] 3))) := by
      have r1 : (w1.alloc (.cells (madeCells #[.bool false] n) 4)).rowIs w1.heap.size 4 n (fun _ => .bool false) := World.rowIs_made w1 _ n _
      have hb3 : Below w.heap.size w (((w1.alloc (.cells (madeCells #[.bool false] n) 4)).alloc (.cells #[.slice ad n cd, .slice (some ⟨w1.heap.size, 0, none⟩) n n] 64)).alloc (.cells #[.int .i64 0] 3)) := by
        have := HB1.out.size
        exact ((HB1.out.alloc this _).alloc (by simp; omega) _).alloc (by simp; omega) _
      refine ⟨?_, (r1.alloc _).alloc _, (HU.out.wide (G := fun g => g < w.heap.size) fun g hg _ => hg).below hb3⟩
      have h1 := Go.Deep.blk_alloc_new (w1.alloc (.cells (madeCells #[.bool false] n) 4)) (.cells #[.slice ad n cd, .slice (some ⟨w1.heap.size, 0, none⟩) n n] 64)
      have h2 : (w1.alloc (.cells (madeCells #[.bool false] n) 4)).heap.size = w1.heap.size + 1 := by simp
      rw [h2] at h1
      exact (Go.Deep.blk_alloc_lt _ _ _ (by simp)).trans h1
    have hb3 : Hid (Below w.heap.size w (((w1.alloc (.cells (madeCells #[.bool false] n) 4)).alloc (.cells #[.slice ad n cd, .slice (some ⟨w1.heap.size, 0, none⟩) n n] 64)).alloc (.cells #[.int .i64 0] 3))) := by
      have := HB1.out.size
      exact ((HB1.out.alloc this _).alloc (by simp; omega) _).alloc (by simp; omega) _
    have hnum : Hid (NumS (fun g => g ≠ w1.heap.size) (((w1.alloc (.cells (madeCells #[.bool false] n) 4)).alloc (.cells #[.slice ad n cd, .slice (some ⟨w1.heap.size, 0, none⟩) n n] 64)).alloc (.cells #[.int .i64 0] 3)) (.slice (some ⟨w1.heap.size + 2, 0, none⟩) 1 1) ([0].map fun (i : Nat) => (i : Int))) := by
      refine ⟨some ⟨w1.heap.size + 2, 0, none⟩, 1, rfl, Nat.le_refl _, by omega, fun _ => ⟨w1.heap.size + 2, 0, rfl, by simp, by show _ ≠ _; omega, fun j hj => ?_⟩⟩
      obtain rfl : j = 0 := by simp at hj; omega
      have h2 : ((w1.alloc (.cells (madeCells #[.bool false] n) 4)).alloc (.cells #[.slice ad n cd, .slice (some ⟨w1.heap.size, 0, none⟩) n n] 64)).heap.size = w1.heap.size + 2 := by simp
      have := cell_at ((w1.alloc (.cells (madeCells #[.bool false] n) 4)).alloc (.cells #[.slice ad n cd, .slice (some ⟨w1.heap.size, 0, none⟩) n n] 64)) [.int .i64 0] 3 0 _ rfl
      rw [h2] at this
      exact this
    have HLE : Hid (w.heap.size ≤ w1.heap.size) := HB1.out.size
    clear hM HB1 hmay HU
    go_wp2_with fail
    generalize ((w1.alloc (.cells (madeCells #[.bool false] n) 4)).alloc (.cells #[.slice ad n cd, .slice (some ⟨w1.heap.size, 0, none⟩) n n] 64)).alloc (.cells #[.int .i64 0] 3) = w3 at *
    generalize w1.heap.size = bi at *
    have HTX := Lib.hid (textOf_any w3 (bi + 1) bi n (.slice ad n cd) d _ [0] HDN.out HT.out.prow HT.out.brow (HT.out.lo.wide fun g _ hg => by have := HLE.out; omega) hnum.out (fun x hx => by simp at hx; omega) (by simp) HMAY.out (by omega))
    have hfe : Au.spread d (Au.setOf n (fun j => j ∈ [0])) = Au.first d := by
      unfold Au.first
      rw [HDN.out]
      congr 2
      funext j
      simp
    rw [hfe] at HTX
    refine HTX.out.mono ?_
    rintro e w4 ⟨rfl, hk4, hr4⟩
    have HT4 := Lib.hid (HT.out.kept hk4 (by omega) HLE.out hr4)
    have HB4 : Hid (Below w.heap.size w w4) := KeptF.below hb3.out hk4 (fun k hk => by rw [hk]; exact HLE.out) hb3.out.size
    clear hk4 hr4 HTX hfe hnum hb3 HT
    have HME := Lib.hid (meets_sets w.heap.size (bi + 1) bi n (.slice ad n cd) d w4 most HDN.out hn HMAY.out HBIG.out hm HT4.out (by omega) HLE.out)
    have HLS : Hid (∀ i, Au.Few d most i → ∀ W v, StS (fun g => w4.heap.size ≤ g) W v ((Au.sub d).plain.out (Au.first d) i) → Calls Try.prog 33 #[v] W fun e w' => ∃ r, e = .returned r ∧ StO W.heap.size w' r (Au.tightL d most) ∧ Au.tightE d most = 0 ∧ Below W.heap.size W w') := fun i hf W v hv => by
      obtain ⟨r1, r2⟩ := Au.few_rows HMAY.out hf
      have r3 := Au.few_len hf
      refine (leastP_any _ W v _ ⟨r1, by omega, r2⟩ hv).mono ?_
      rintro e w' ⟨r, rfl, h1, h2⟩
      obtain ⟨e1, e2⟩ := HE.out.2 _ (Au.tight_some hf)
      exact ⟨r, rfl, by rw [e2]; exact h1, e1, h2⟩
    go_wp2_with fail
    refine HME.out.mono ?_
    rintro e w5 ⟨v, er, rfl, hk5, h5⟩
    have HB5 : Hid (Below w.heap.size w w5) := KeptF.below HB4.out hk5 (fun k hk => by rw [hk]; exact HLE.out) HB4.out.size
    clear hk5 HME
    rcases h5 with ⟨rfl, i, hdn, hle, hst⟩ | ⟨rfl, rfl, i, hgt⟩
    · have H6 := Lib.hid (HLS.out i ⟨hdn, hle⟩ w5 v hst)
      obtain ⟨av, cv, rfl, hjunk⟩ := hst
      clear hjunk hdn hle
      go_wp2_with fail
      refine H6.out.mono ?_
      rintro e w6 ⟨r, rfl, h1, h2, h3⟩
      have H7 := Lib.hid (And.intro h1 (And.intro h2 h3))
      clear h1 h2 h3
      go_wp2_with fail
      go_ret2
      exact ⟨r, by rw [H7.out.2.1]; rfl, H7.out.1.lower HB5.out.size, chain HB5.out H7.out.2.2⟩
    · obtain ⟨e1, e2⟩ := HE.out.1 (Au.tight_none i hgt)
      have E1 := Lib.hid e1
      have E2 := Lib.hid e2
      clear e1 e2
      go_wp2_with fail
      go_ret2
      exact ⟨.slice none 0 0, by rw [E1.out]; rfl, by rw [E2.out]; exact StO.nil _ _, HB5.out⟩
end Go.Proofs.Ytdcofdndkpmpaaa

/-
  The automaton that each statement asks first, plainly.
-/
namespace Go.Proofs.Ytdcofdndkpmpaaa
open Go.RowKit
namespace Au
def lo3 : List Lo := [⟨false, [⟨97, 98, 0⟩], [1]⟩, ⟨false, [⟨99, 99, 2⟩], []⟩, ⟨true, [], []⟩]
def one2 : List St := [⟨false, [⟨97, 98, 0⟩, ⟨99, 99, 1⟩]⟩, ⟨true, []⟩]
theorem one2_fits : Fits one2 where
  pos := by decide
  top := by decide
  row := fun i h => by
    have : i = 0 ∨ i = 1 := by simp [one2] at h; omega
    rcases this with rfl | rfl
    · constructor
      · intro k hk
        have : k = 0 ∨ k = 1 := by simp [one2] at hk; omega
        rcases this with rfl | rfl <;> simp [one2]
      · intro k hk
        obtain rfl : k = 0 := by simp [one2] at hk; omega
        simp [one2]
    · constructor
      · intro k hk; simp [one2] at hk
      · intro k hk; simp [one2] at hk
theorem lo3_may : May lo3 where
  pos := by decide
  arc := fun i h a ha => by
    have : i = 0 ∨ i = 1 ∨ i = 2 := by simp [lo3] at h; omega
    rcases this with rfl | rfl | rfl <;> simp [lo3] at ha <;> subst ha <;> simp [lo3]
  free := fun i h f hf => by
    have : i = 0 ∨ i = 1 ∨ i = 2 := by simp [lo3] at h; omega
    rcases this with rfl | rfl | rfl <;> simp [lo3] at hf <;> subst hf <;> simp [lo3]
theorem star3 {i j : Nat} (h : Star lo3 i j) : j = i ∨ (i = 0 ∧ j = 1) := by
  induction h with
  | refl => exact .inl rfl
  | step h hs hf ih =>
    rename_i j s f
    match j, hs with
    | 0, hs =>
      cases hs
      simp at hf
      subst hf
      exact .inr ⟨by omega, rfl⟩
    | 1, hs => cases hs; simp at hf
    | 2, hs => cases hs; simp at hf
    | (j + 3), hs => simp [lo3] at hs
theorem star3_01 : Star lo3 0 1 := Star.step (s := ⟨false, [⟨97, 98, 0⟩], [1]⟩) (f := 1) Star.refl rfl (by simp)
theorem len3 {S : List Bool} (h : S.length = 3) : ∃ a b c, S = [a, b, c] := by
  match S, h with
  | [a, b, c], _ => exact ⟨a, b, c, rfl⟩
theorem spread3 (P : Nat → Prop) : spread lo3 (setOf 3 P) = setOf 3 (fun k => P k ∨ (k = 1 ∧ P 0)) := by
  refine set_ext (by rw [spread_length, setOf_length]; rfl) fun k => ?_
  unfold spread
  rw [has_setOf, has_setOf]
  constructor
  · rintro ⟨hk, j, hj, hs⟩
    have hj := (has_setOf 3 P j).1 hj
    rcases star3 hs with rfl | ⟨rfl, rfl⟩
    · exact ⟨hk, .inl hj.2⟩
    · exact ⟨hk, .inr ⟨rfl, hj.2⟩⟩
  · rintro ⟨hk, h | ⟨rfl, h⟩⟩
    · exact ⟨hk, k, (has_setOf 3 P k).2 ⟨hk, h⟩, Star.refl⟩
    · exact ⟨hk, 0, (has_setOf 3 P 0).2 ⟨by omega, h⟩, star3_01⟩
theorem set3 {P Q : Nat → Prop} (h : ∀ k, k < 3 → (P k ↔ Q k)) : setOf 3 P = setOf 3 Q := set_ext (by rw [setOf_length, setOf_length]) fun k => by
  rw [has_setOf, has_setOf]
  exact ⟨fun ⟨a, b⟩ => ⟨a, (h k a).1 b⟩, fun ⟨a, b⟩ => ⟨a, (h k a).2 b⟩⟩
def A01 (k : Nat) : Prop := k = 0 ∨ k = 1
def A2 (k : Nat) : Prop := k = 2
theorem first3 : first lo3 = setOf 3 A01 := by
  show spread lo3 (setOf 3 (fun i => i = 0)) = _
  rw [spread3]
  exact set3 fun k _ => by unfold A01; omega
theorem over3 (P : Nat → Prop) (c : Nat) : over lo3 (setOf 3 P) c = spread lo3 (setOf 3 (fun j => (P 0 ∧ 97 ≤ c ∧ c ≤ 98 ∧ j = 0) ∨ (P 1 ∧ c = 99 ∧ j = 2))) := by
  unfold over
  show spread lo3 (setOf 3 _) = _
  congr 1
  refine set3 fun j _ => ?_
  unfold leads
  constructor
  · rintro ⟨k, s, a, hk, hs, ha, h1, h2, h3⟩
    have hk := (has_setOf 3 P k).1 hk
    match k, hs with
    | 0, hs =>
      cases hs
      simp at ha
      subst ha
      dsimp only at h1 h2 h3
      exact .inl ⟨hk.2, by omega, by omega, by omega⟩
    | 1, hs =>
      cases hs
      simp at ha
      subst ha
      dsimp only at h1 h2 h3
      exact .inr ⟨hk.2, by omega, by omega⟩
    | 2, hs => cases hs; simp at ha
    | (k + 3), hs => simp [lo3] at hs
  · rintro (⟨hp, h1, h2, rfl⟩ | ⟨hp, rfl, rfl⟩)
    · exact ⟨0, _, ⟨97, 98, 0⟩, (has_setOf 3 P 0).2 ⟨by omega, hp⟩, rfl, by simp, by dsimp only; omega, by dsimp only; omega, rfl⟩
    · exact ⟨1, _, ⟨99, 99, 2⟩, (has_setOf 3 P 1).2 ⟨by omega, hp⟩, rfl, by simp, by dsimp only; omega, by dsimp only; omega, rfl⟩
theorem over01 (c : Nat) : over lo3 (setOf 3 A01) c = if 97 ≤ c ∧ c ≤ 98 then setOf 3 A01 else if c = 99 then setOf 3 A2 else setOf 3 (fun _ => False) := by
  rw [over3, spread3]
  split
  · exact set3 fun k _ => by unfold A01; omega
  · split
    · exact set3 fun k _ => by unfold A01 A2; omega
    · exact set3 fun k _ => ⟨fun h => by unfold A01 at h; omega, fun h => h.elim⟩
theorem over2 (c : Nat) : over lo3 (setOf 3 A2) c = setOf 3 (fun _ => False) := by
  rw [over3, spread3]
  exact set3 fun k _ => ⟨fun h => by unfold A2 at h; omega, fun h => h.elim⟩
theorem empty3 : empty (setOf 3 (fun _ => False)) = true := (empty_iff _).2 fun i h => ((has_setOf 3 _ i).1 h).2
theorem full01 : empty (setOf 3 A01) = false := by
  cases h : empty (setOf 3 A01) with
  | false => rfl
  | true => exact absurd ((has_setOf 3 A01 0).2 ⟨by omega, .inl rfl⟩) ((empty_iff _).1 h 0)
theorem full2 : empty (setOf 3 A2) = false := by
  cases h : empty (setOf 3 A2) with
  | false => rfl
  | true => exact absurd ((has_setOf 3 A2 2).2 ⟨by omega, rfl⟩) ((empty_iff _).1 h 2)
theorem ends01 : ends lo3 (setOf 3 A01) = false := by
  cases h : ends lo3 (setOf 3 A01) with
  | false => rfl
  | true =>
    obtain ⟨i, s, hi, hs, hf⟩ := (ends_iff _ _).1 h
    have hi := ((has_setOf 3 A01 i).1 hi).2
    rcases hi with rfl | rfl <;> cases hs <;> cases hf
theorem ends2 : ends lo3 (setOf 3 A2) = true := (ends_iff _ _).2 ⟨2, _, (has_setOf 3 A2 2).2 ⟨by omega, rfl⟩, rfl, rfl⟩
theorem one2_step0 (c : Nat) : (ofL one2).step 0 c = if 97 ≤ c ∧ c ≤ 98 then some 0 else if c = 99 then some 1 else none := by
  show (look [⟨97, 98, 0⟩, ⟨99, 99, 1⟩] (c : Int)).map Int.toNat = _
  unfold look
  by_cases h : 97 ≤ c ∧ c ≤ 98
  · rw [if_pos h, if_pos (by dsimp only; omega)]
    rfl
  · rw [if_neg h, if_neg (by dsimp only; omega)]
    unfold look
    by_cases h2 : c = 99
    · rw [if_pos h2, if_pos (by dsimp only; omega)]
      rfl
    · rw [if_neg h2, if_neg (by dsimp only; omega)]
      rfl
theorem one2_step1 (c : Nat) : (ofL one2).step 1 c = none := rfl
theorem sub3_step (c : Nat) : (sub lo3).step (setOf 3 A01) c = if 97 ≤ c ∧ c ≤ 98 then some (setOf 3 A01) else if c = 99 then some (setOf 3 A2) else none := by
  show (if empty (over lo3 (setOf 3 A01) c) = true then none else some (over lo3 (setOf 3 A01) c)) = _
  rw [over01]
  by_cases h : 97 ≤ c ∧ c ≤ 98
  · rw [if_pos h, if_pos h, full01, if_neg (by decide)]
  · rw [if_neg h, if_neg h]
    by_cases h2 : c = 99
    · rw [if_pos h2, if_pos h2, full2, if_neg (by decide)]
    · rw [if_neg h2, if_neg h2, empty3, if_pos rfl]
theorem sub3_step2 (c : Nat) : (sub lo3).step (setOf 3 A2) c = none := by
  show (if empty (over lo3 (setOf 3 A2) c) = true then none else some (over lo3 (setOf 3 A2) c)) = _
  rw [over2, empty3, if_pos rfl]
theorem eqv3 : Eqv (ofL one2) (sub lo3) 0 (first lo3) := by
  rw [first3]
  have h1 : ∀ w : List Nat, (ofL one2).acc (some 1) w = (sub lo3).acc (some (setOf 3 A2)) w := fun w => by
    cases w with
    | nil => rw [acc_nil, acc_nil]; exact ends2.symm
    | cons c w => rw [acc_cons, acc_cons, one2_step1, sub3_step2, acc_none, acc_none]
  intro w
  induction w with
  | nil => rw [acc_nil, acc_nil]; exact ends01.symm
  | cons c w ih =>
    rw [acc_cons, acc_cons, one2_step0, sub3_step]
    by_cases h : 97 ≤ c ∧ c ≤ 98
    · rw [if_pos h, if_pos h]; exact ih
    · rw [if_neg h, if_neg h]
      by_cases h2 : c = 99
      · rw [if_pos h2, if_pos h2]; exact h1 w
      · rw [if_neg h2, if_neg h2, acc_none, acc_none]
def num3 (S : List Bool) : Nat := match S with
  | [a, b, c] => (if a then 4 else 0) + (if b then 2 else 0) + (if c then 1 else 0)
  | _ => 0
theorem few3 : Few lo3 9 8 := by
  have h : ∀ i, ((sub lo3).plain.met (first lo3) i).length ≤ 8 := fun i => by
    refine met_few (sub lo3).plain (fun s => decide_eq_true rfl) num3 8 (fun S => S.length = 3) (fun s c t _ hg => sub_go_len s c t hg) (first lo3) (first_length lo3) (fun x hx => ?_) (fun x y hx hy e => ?_) i
    · obtain ⟨a, b, c, rfl⟩ := len3 hx
      cases a <;> cases b <;> cases c <;> decide
    · obtain ⟨a, b, c, rfl⟩ := len3 hx
      obtain ⟨a', b', c', rfl⟩ := len3 hy
      revert e
      cases a <;> cases b <;> cases c <;> cases a' <;> cases b' <;> cases c' <;> decide
  exact ⟨h 8, by have := h 8; omega⟩
theorem alive2 (s : Nat) (hs : s < 2) : ¬ Dead (ofL one2) (some s) := fun h => by
  have : s = 0 ∨ s = 1 := by omega
  rcases this with rfl | rfl
  · have := h [99]
    rw [acc_cons, one2_step0, if_neg (by omega), if_pos rfl, acc_nil] at this
    cases this
  · have := h []
    rw [acc_nil] at this
    cases this
theorem one2_alike : Alike (ofL one2).walk (ofL one2).plain (fun s t => s = t ∧ s < 2) where
  fin := fun s t ⟨e, _⟩ => by subst e; rfl
  go := fun s t ⟨e, hs⟩ c => by
    subst e
    show (((ofL one2).go s c = none ∧ (ofL one2).step s c = none) ∨ ∃ s' t', (ofL one2).go s c = some s' ∧ (ofL one2).step s c = some t' ∧ s' = t' ∧ s' < 2)
    cases hst : (ofL one2).step s c with
    | none => exact .inl ⟨go_dead (by rw [hst]; exact dead_none _), rfl⟩
    | some t =>
      have ht : t < 2 := ofL_in one2_fits.row hst
      exact .inr ⟨t, t, go_of hst (alive2 t ht), rfl, rfl, ht⟩
  same := fun s t s' t' ⟨e, hs⟩ ⟨e', hs'⟩ => by
    subst e e'
    show (ofL one2).same s s' = decide (s = s')
    by_cases h : s = s'
    · subst h
      rw [decide_eq_true rfl]
      exact (same_iff _ _ _).2 (Eqv.refl _ _)
    · rw [decide_eq_false h]
      cases hb : (ofL one2).same s s' with
      | false => rfl
      | true =>
        have := ((same_iff _ _ _).1 hb).fin
        have h1 : s = 0 ∨ s = 1 := by omega
        have h2 : s' = 0 ∨ s' = 1 := by omega
        rcases h1 with rfl | rfl <;> rcases h2 with rfl | rfl
        · exact absurd rfl h
        · cases this
        · cases this
        · exact absurd rfl h
theorem one2_least : least one2 = one2 := by
  have h := (one2_alike.states (s := 0) (t := 0) ⟨rfl, by omega⟩ 2).2
  show ((ofL one2).walk.states 0 2).2 = one2
  rw [h]
  decide +kernel
theorem awake_tight : tightE lo3 9 = 0 ∧ tightL lo3 9 = one2 := by
  have h := tight_is lo3_may few3 one2_fits.pos one2_fits.row eqv3
  rw [one2_least] at h
  exact (tight_outs (d := lo3) (most := 9) ((may_true _).2 lo3_may)).2 _ h
theorem takesL_of {d : List St} (h : Fits d) (s : List UInt8) : takesL d s = (ofL d).acc (some 0) (s.map UInt8.toNat) := by simp [takesL, h]
theorem one2_abc : takesL one2 [97, 98, 99] = true := by
  rw [takesL_of one2_fits]
  rfl
theorem one2_ab : takesL one2 [97, 98] = false := by
  rw [takesL_of one2_fits]
  rfl
end Au
end Go.Proofs.Ytdcofdndkpmpaaa

/-
  What each statement asks first: awake.
-/
namespace Go.Proofs.Ytdcofdndkpmpaaa
open Go.RowKit
namespace Au
theorem filter_sum {α : Type} (l : List α) (p : α → Bool) (f : α → Nat) : ((l.filter p).map f).sum ≤ (l.map f).sum := by
  induction l with
  | nil => exact Nat.le_refl _
  | cons y t ih =>
    by_cases h : p y = true
    · rw [List.filter_cons_of_pos h]
      simp only [List.map_cons, List.sum_cons]
      omega
    · rw [List.filter_cons_of_neg h]
      simp only [List.map_cons, List.sum_cons]
      omega
theorem range_rows (d : List Lo) : ∀ m, ((List.range m).map fun k => (rowOf d k).length).sum ≤ (d.map fun s => s.arcs.length).sum := by
  induction d with
  | nil =>
    intro m
    have : ((List.range m).map fun k => (rowOf [] k).length) = (List.range m).map fun _ => 0 := List.map_congr_left fun k _ => by simp [rowOf]
    rw [this]
    have h0 : ∀ l : List Nat, (l.map fun _ => 0).sum = 0 := fun l => by
      induction l with
      | nil => rfl
      | cons y t ih => simp only [List.map_cons, List.sum_cons, ih]
    rw [h0]
    exact Nat.zero_le _
  | cons s d ih =>
    intro m
    cases m with
    | zero => simp
    | succ m =>
      rw [List.range_succ_eq_map, List.map_cons, List.sum_cons, List.map_map]
      simp only [List.map_cons, List.sum_cons]
      have h1 : (rowOf (s :: d) 0).length = s.arcs.length := rfl
      have h2 : ((List.range m).map ((fun k => (rowOf (s :: d) k).length) ∘ Nat.succ)) = (List.range m).map fun k => (rowOf d k).length := List.map_congr_left fun k _ => by simp [rowOf]
      rw [h1, h2]
      have := ih m
      omega
theorem rows_sum (d : List Lo) (S : List Bool) : (rowsOf d S).flatten.length ≤ (d.map fun s => s.arcs.length).sum := by
  rw [List.length_flatten]
  unfold rowsOf idx
  rw [List.map_map]
  exact Nat.le_trans (filter_sum _ _ _) (range_rows d S.length)
end Au
theorem blocks_at (w : World) (o1 o2 o3 o4 : Obj) : ((((w.alloc o1).alloc o2).alloc o3).alloc o4).heap[w.heap.size]? = some o1 ∧ ((((w.alloc o1).alloc o2).alloc o3).alloc o4).heap[w.heap.size + 1]? = some o2 ∧ ((((w.alloc o1).alloc o2).alloc o3).alloc o4).heap[w.heap.size + 2]? = some o3 ∧ ((((w.alloc o1).alloc o2).alloc o3).alloc o4).heap[w.heap.size + 3]? = some o4 ∧ ((((w.alloc o1).alloc o2).alloc o3).alloc o4).heap.size = w.heap.size + 4 := by
  have s1 : (w.alloc o1).heap.size = w.heap.size + 1 := by simp
  have s2 : ((w.alloc o1).alloc o2).heap.size = w.heap.size + 2 := by simp
  have s3 : (((w.alloc o1).alloc o2).alloc o3).heap.size = w.heap.size + 3 := by simp
  refine ⟨?_, ?_, ?_, ?_, by simp⟩
  · exact ((Go.Deep.blk_alloc_lt _ _ _ (by omega)).trans ((Go.Deep.blk_alloc_lt _ _ _ (by omega)).trans (Go.Deep.blk_alloc_lt _ _ _ (by omega)))).trans (Go.Deep.blk_alloc_new _ _)
  · have := Go.Deep.blk_alloc_new (w.alloc o1) o2
    rw [s1] at this
    exact ((Go.Deep.blk_alloc_lt _ _ _ (by omega)).trans (Go.Deep.blk_alloc_lt _ _ _ (by omega))).trans this
  · have := Go.Deep.blk_alloc_new ((w.alloc o1).alloc o2) o3
    rw [s2] at this
    exact (Go.Deep.blk_alloc_lt _ _ _ (by omega)).trans this
  · have := Go.Deep.blk_alloc_new (((w.alloc o1).alloc o2).alloc o3) o4
    rw [s3] at this
    exact this
theorem one_sts0 (W : World) (g : Nat) (h1 : W.heap[g]? = some (.cells #[.int .i64 97, .int .i64 98, .int .i64 0, .int .i64 99, .int .i64 99, .int .i64 1] 41 (0, 0))) (h2 : W.heap[g + 1]? = some (.cells #[.bool false, .slice (some ⟨g, 0, none⟩) 2 2, .bool true, .slice none 0 0] 39 (0, 0))) :
    StS (fun x => g ≤ x) W (.slice (some ⟨g + 1, 0, none⟩) 2 2) Au.one2 := by
  have hl := (Array.getElem?_eq_some_iff.1 h2).1
  refine ⟨some ⟨g + 1, 0, none⟩, 2, rfl, Nat.le_refl _, by omega, fun _ => ⟨g + 1, 0, rfl, hl, Nat.le_succ _, fun j hj => ?_⟩⟩
  have : j = 0 ∨ j = 1 := by simp [Au.one2] at hj; omega
  rcases this with rfl | rfl
  · refine ⟨by simp [World.cell?, h2, Au.one2], .slice (some ⟨g, 0, none⟩) 2 2, by simp [World.cell?, h2], some ⟨g, 0, none⟩, 2, rfl, Nat.le_refl _, by omega, fun _ => ⟨g, 0, rfl, by omega, Nat.le_refl _, fun k hk => ?_⟩⟩
    have : k = 0 ∨ k = 1 := by simp [Au.one2] at hk; omega
    rcases this with rfl | rfl
    · exact ⟨by simp [World.cell?, h1, Au.one2], by simp [World.cell?, h1, Au.one2], by simp [World.cell?, h1, Au.one2]⟩
    · exact ⟨by simp [World.cell?, h1, Au.one2], by simp [World.cell?, h1, Au.one2], by simp [World.cell?, h1, Au.one2]⟩
  · exact ⟨by simp [World.cell?, h2, Au.one2], .slice none 0 0, by simp [World.cell?, h2], none, 0, rfl, Nat.le_refl _, by omega, fun h => by simp [Au.one2] at h⟩
theorem one_sts (w : World) : StS (fun g => w.heap.size ≤ g) ((w.alloc (.cells #[.int .i64 97, .int .i64 98, .int .i64 0, .int .i64 99, .int .i64 99, .int .i64 1] 41)).alloc (.cells #[.bool false, .slice (some ⟨w.heap.size, 0, none⟩) 2 2, .bool true, .slice none 0 0] 39)) (.slice (some ⟨w.heap.size + 1, 0, none⟩) 2 2) Au.one2 := by
  have h2 := Go.Deep.blk_alloc_new (w.alloc (.cells #[.int .i64 97, .int .i64 98, .int .i64 0, .int .i64 99, .int .i64 99, .int .i64 1] 41)) (.cells #[.bool false, .slice (some ⟨w.heap.size, 0, none⟩) 2 2, .bool true, .slice none 0 0] 39)
  have s1 : (w.alloc (.cells #[.int .i64 97, .int .i64 98, .int .i64 0, .int .i64 99, .int .i64 99, .int .i64 1] 41)).heap.size = w.heap.size + 1 := by simp
  rw [s1] at h2
  exact one_sts0 _ _ ((Go.Deep.blk_alloc_lt _ _ w.heap.size (by simp)).trans (Go.Deep.blk_alloc_new _ _)) h2
theorem lo3_los (W : World) (g : Nat) (h1 : W.heap[g]? = some (.cells #[.int .i64 97, .int .i64 98, .int .i64 0] 41 (0, 0))) (h2 : W.heap[g + 1]? = some (.cells #[.int .i64 1] 3 (0, 0))) (h3 : W.heap[g + 2]? = some (.cells #[.int .i64 99, .int .i64 99, .int .i64 2] 41 (0, 0)))
    (h4 : W.heap[g + 3]? = some (.cells #[.bool false, .slice (some ⟨g, 0, none⟩) 1 1, .slice (some ⟨g + 1, 0, none⟩) 1 1, .bool false, .slice (some ⟨g + 2, 0, none⟩) 1 1, .slice none 0 0, .bool true, .slice none 0 0, .slice none 0 0] 56 (0, 0))) :
    LoS (fun _ => True) W (.slice (some ⟨g + 3, 0, none⟩) 3 3) Au.lo3 := by
  have hl := (Array.getElem?_eq_some_iff.1 h4).1
  refine ⟨some ⟨g + 3, 0, none⟩, 3, rfl, Nat.le_refl _, by omega, fun _ => ⟨g + 3, 0, rfl, hl, trivial, fun j hj => ?_⟩⟩
  have : j = 0 ∨ j = 1 ∨ j = 2 := by simp [Au.lo3] at hj; omega
  rcases this with rfl | rfl | rfl
  · refine ⟨by simp [World.cell?, h4, Au.lo3], ⟨.slice (some ⟨g, 0, none⟩) 1 1, by simp [World.cell?, h4], some ⟨g, 0, none⟩, 1, rfl, Nat.le_refl _, by omega, fun _ => ⟨g, 0, rfl, by omega, trivial, fun k hk => ?_⟩⟩, .slice (some ⟨g + 1, 0, none⟩) 1 1, by simp [World.cell?, h4], some ⟨g + 1, 0, none⟩, 1, rfl, Nat.le_refl _, by omega, fun _ => ⟨g + 1, 0, rfl, by omega, trivial, fun k hk => ?_⟩⟩
    · obtain rfl : k = 0 := by simp [Au.lo3] at hk; omega
      exact ⟨by simp [World.cell?, h1, Au.lo3], by simp [World.cell?, h1, Au.lo3], by simp [World.cell?, h1, Au.lo3]⟩
    · obtain rfl : k = 0 := by simp [Au.lo3] at hk; omega
      simp [World.cell?, h2, Au.lo3]
  · refine ⟨by simp [World.cell?, h4, Au.lo3], ⟨.slice (some ⟨g + 2, 0, none⟩) 1 1, by simp [World.cell?, h4], some ⟨g + 2, 0, none⟩, 1, rfl, Nat.le_refl _, by omega, fun _ => ⟨g + 2, 0, rfl, by omega, trivial, fun k hk => ?_⟩⟩, .slice none 0 0, by simp [World.cell?, h4], none, 0, rfl, Nat.le_refl _, by omega, fun h => by simp [Au.lo3] at h⟩
    obtain rfl : k = 0 := by simp [Au.lo3] at hk; omega
    exact ⟨by simp [World.cell?, h3, Au.lo3], by simp [World.cell?, h3, Au.lo3], by simp [World.cell?, h3, Au.lo3]⟩
  · exact ⟨by simp [World.cell?, h4, Au.lo3], ⟨.slice none 0 0, by simp [World.cell?, h4], none, 0, rfl, Nat.le_refl _, by omega, fun h => by simp [Au.lo3] at h⟩, .slice none 0 0, by simp [World.cell?, h4], none, 0, rfl, Nat.le_refl _, by omega, fun h => by simp [Au.lo3] at h⟩

set_option maxRecDepth 100000 in
set_option maxHeartbeats 2000000 in
theorem one_any (w : World) : Calls Try.prog 25 #[] w fun e w' => ∃ v, e = .returned v ∧ StS (fun g => w.heap.size ≤ g) w' v Au.one2 ∧ Below w.heap.size w w' := by
  have H := Lib.hid (one_sts w)
  have hb : Hid (Below w.heap.size w ((w.alloc (.cells #[.int .i64 97, .int .i64 98, .int .i64 0, .int .i64 99, .int .i64 99, .int .i64 1] 41)).alloc (.cells #[.bool false, .slice (some ⟨w.heap.size, 0, none⟩) 2 2, .bool true, .slice none 0 0] 39))) := ((Below.refl _ _).alloc (Nat.le_refl _) _).alloc (by simp) _
  go_enter Try.func25, Try.ntmps25
  go_wp2_with fail
  go_ret
  exact ⟨_, rfl, H.out, hb.out⟩

set_option maxRecDepth 100000 in
set_option maxHeartbeats 4000000 in
theorem awake_any (w : World) : Calls Try.prog 8 #[] w fun e w' => e = .returned (.bool true) ∧ Below w.heap.size w w' := by
  obtain ⟨k1, k2, k3, k4, k5⟩ := blocks_at w (.cells #[.int .i64 97, .int .i64 98, .int .i64 0] 41) (.cells #[.int .i64 1] 3) (.cells #[.int .i64 99, .int .i64 99, .int .i64 2] 41) (.cells #[.bool false, .slice (some ⟨w.heap.size, 0, none⟩) 1 1, .slice (some ⟨w.heap.size + 1, 0, none⟩) 1 1, .bool false, .slice (some ⟨w.heap.size + 2, 0, none⟩) 1 1, .slice none 0 0, .bool true, .slice none 0 0, .slice none 0 0] 56)
  have HL := Lib.hid (lo3_los _ w.heap.size k1 k2 k3 k4)
  have HB0 : Hid (Below w.heap.size w ((((w.alloc (.cells #[.int .i64 97, .int .i64 98, .int .i64 0] 41)).alloc (.cells #[.int .i64 1] 3)).alloc (.cells #[.int .i64 99, .int .i64 99, .int .i64 2] 41)).alloc (.cells #[.bool false, .slice (some ⟨w.heap.size, 0, none⟩) 1 1, .slice (some ⟨w.heap.size + 1, 0, none⟩) 1 1, .bool false, .slice (some ⟨w.heap.size + 2, 0, none⟩) 1 1, .slice none 0 0, .bool true, .slice none 0 0, .slice none 0 0] 56))) :=
    ((((Below.refl _ _).alloc (Nat.le_refl _) _).alloc (by simp) _).alloc (by simp; omega) _).alloc (by simp; omega) _
  clear k1 k2 k3 k4 k5
  have HTG := Lib.hid Au.awake_tight
  go_enter Try.func8, Try.ntmps8
  go_wp2_with fail
  generalize (((w.alloc (.cells #[.int .i64 97, .int .i64 98, .int .i64 0] 41)).alloc (.cells #[.int .i64 1] 3)).alloc (.cells #[.int .i64 99, .int .i64 99, .int .i64 2] 41)).alloc (.cells #[.bool false, .slice (some ⟨w.heap.size, 0, none⟩) 1 1, .slice (some ⟨w.heap.size + 1, 0, none⟩) 1 1, .bool false, .slice (some ⟨w.heap.size + 2, 0, none⟩) 1 1, .slice none 0 0, .bool true, .slice none 0 0, .slice none 0 0] 56) = w1 at *
  have HT := tightP_any (fun _ => True) w1 _ Au.lo3 9 HL.out (by decide) (fun S => Nat.le_trans (Au.rows_sum Au.lo3 S) (by decide)) (by omega)
  rw [HTG.out.1, HTG.out.2] at HT
  have HT := Lib.hid HT
  refine HT.out.mono ?_
  rintro e w2 ⟨v, rfl, hv, hb⟩
  have HB2 : Hid (Below w.heap.size w w2) := chain HB0.out hb
  have HV2 := Lib.hid (hv.sts.wide (G := fun _ => True) fun _ _ _ => trivial)
  obtain ⟨av, cv, rfl, hjunk⟩ := hv.sts
  clear hv
  clear hjunk hb HT HB0 HL
  go_wp2_with fail
  refine (one_any _).mono ?_
  rintro e w3 ⟨v3, rfl, hv3, hb3⟩
  have H3 := Lib.hid (same_any (fun _ => True) _ w3 _ v3 Au.one2 Au.one2 (HV2.out.below hb3) hv3)
  have HB3 : Hid (Below w.heap.size w w3) := chain HB2.out hb3
  have e1 : decide (Au.one2 = Au.one2) = true := decide_eq_true rfl
  rw [e1] at H3
  clear hv3 hb3 HB2 e1
  go_wp2_with fail
  refine H3.out.mono ?_
  rintro e w4 ⟨rfl, hb4⟩
  have HB4 : Hid (Below w.heap.size w w4) := chain HB3.out hb4
  clear hb4 H3 HB3
  go_wp2_with fail
  refine (one_any _).mono ?_
  rintro e w5 ⟨v5, rfl, hv5, hb5⟩
  have H5 := acceptsP_any _ w5 v5 Au.one2 ⟨#[97, 98, 99]⟩ (by decide) hv5
  rw [show (⟨#[97, 98, 99]⟩ : ByteArray).data.toList = [97, 98, 99] from rfl, Au.one2_abc] at H5
  have H5 := Lib.hid H5
  have HB5 : Hid (Below w.heap.size w w5) := chain HB4.out hb5
  clear hv5 hb5 HB4
  go_wp2_with fail
  refine H5.out.mono ?_
  rintro e w6 ⟨rfl, hb6⟩
  have HB6 : Hid (Below w.heap.size w w6) := chain HB5.out hb6
  clear hb6 H5 HB5
  go_wp2_with fail
  refine (one_any _).mono ?_
  rintro e w7 ⟨v7, rfl, hv7, hb7⟩
  have H7 := acceptsP_any _ w7 v7 Au.one2 ⟨#[97, 98]⟩ (by decide) hv7
  rw [show (⟨#[97, 98]⟩ : ByteArray).data.toList = [97, 98] from rfl, Au.one2_ab] at H7
  have H7 := Lib.hid H7
  have HB7 : Hid (Below w.heap.size w w7) := chain HB6.out hb7
  clear hv7 hb7 HB6
  go_wp2_with fail
  refine H7.out.mono ?_
  rintro e w8 ⟨rfl, hb8⟩
  have HB8 : Hid (Below w.heap.size w w8) := chain HB7.out hb8
  clear hb8 H7 HB7
  go_wp2_with fail
  refine (one_any _).mono ?_
  rintro e w9 ⟨v9, rfl, hv9, hb9⟩
  have H9 := checkP_any _ w9 v9 Au.one2 hv9
  rw [(Au.check_iff Au.one2).2 Au.one2_fits] at H9
  have H9 := Lib.hid H9
  have HB9 : Hid (Below w.heap.size w w9) := chain HB8.out hb9
  clear hv9 hb9 HB8
  go_wp2_with fail
  refine H9.out.mono ?_
  rintro e w10 ⟨rfl, hb10⟩
  have HB10 : Hid (Below w.heap.size w w10) := chain HB9.out hb10
  clear hb10 H9 HB9
  go_wp2_with fail
  go_ret
  exact ⟨rfl, HB10.out⟩
theorem few_any (w : World) (n : Int) : Calls Try.prog 18 #[.int .i64 n] w fun e w' => e = .returned (.bool (decide (n ≤ 30))) ∧ Below w.heap.size w w' := by
  by_cases h : n ≤ 30
  · rw [decide_eq_true h]
    go_enter Try.func18, Try.ntmps18
    go_wp2_with fail
    go_ret
    exact ⟨rfl, Below.refl _ _⟩
  · rw [decide_eq_false h]
    go_enter Try.func18, Try.ntmps18
    go_wp2_with fail
    go_ret
    exact ⟨rfl, Below.refl _ _⟩
end Go.Proofs.Ytdcofdndkpmpaaa

/-
  DfaRuns: the walk.
-/
namespace Go.Proofs.Ytdcofdndkpmpaaa
open Go.RowKit

set_option maxRecDepth 100000 in
set_option maxHeartbeats 2000000 in
theorem runs_walk (w : World) (F : Nat → Prop) (v : Value) (d : List Au.St) (s : ByteArray) (st : Int) (c : Nat) (hv : StS F w v d) (hs : s.size ≤ 9223372036854775806) (hc : c < 256) :
    Calls Try.prog 3 #[v, .string s, .int .i64 st, .int .u8 (c : Int)] w fun e w' => e = .returned (.bool true) ∧ Below w.heap.size w w' := by
  have H1 : Hid (∀ W, Below w.heap.size w W → StS F W v d) := fun W hb => hv.below hb
  have HC1 : Hid (∀ W, Below w.heap.size w W → _) := fun W hb => checkP_any F W v d (H1.out W hb)
  have HC2 : Hid (∀ W, Below w.heap.size w W → _) := fun W hb => checkR_any F W v d (H1.out W hb)
  have HA1 : Hid (∀ W, Below w.heap.size w W → _) := fun W hb => acceptsP_any F W v d s hs (H1.out W hb)
  have HA2 : Hid (∀ W, Below w.heap.size w W → _) := fun W hb => acceptsR_any F W v d s hs (H1.out W hb)
  have HS1 : Hid (∀ W, Below w.heap.size w W → _) := fun W hb => stepP_any F W v d st c hc (H1.out W hb)
  have HS2 : Hid (∀ W, Below w.heap.size w W → _) := fun W hb => stepR_any F W v d st (c : Int) (H1.out W hb)
  have HAW := Lib.hid (awake_any w)
  obtain ⟨ad, cd, rfl, hjunk⟩ := hv
  clear hjunk H1
  go_enter Try.func3, Try.ntmps3
  go_wp2_with fail
  refine HAW.out.mono ?_
  rintro e w1 ⟨rfl, hb⟩
  have HB1 := Lib.hid hb
  have G1 := Lib.hid (HC1.out w1 hb)
  clear hb HAW HC1
  go_wp2_with fail
  refine G1.out.mono ?_
  rintro e w2 ⟨rfl, hb⟩
  have HB2 : Hid (Below w.heap.size w w2) := chain HB1.out hb
  have G2 := Lib.hid (HC2.out w2 HB2.out)
  clear hb G1 HB1 HC2
  go_wp2_with fail
  refine G2.out.mono ?_
  rintro e w3 ⟨rfl, hb⟩
  have HB3 : Hid (Below w.heap.size w w3) := chain HB2.out hb
  have G3 := Lib.hid (HA1.out w3 HB3.out)
  clear hb G2 HB2 HA1
  go_wp2_with fail
  refine G3.out.mono ?_
  rintro e w4 ⟨rfl, hb⟩
  have HB4 : Hid (Below w.heap.size w w4) := chain HB3.out hb
  have G4 := Lib.hid (HA2.out w4 HB4.out)
  clear hb G3 HB3 HA2
  go_wp2_with fail
  refine G4.out.mono ?_
  rintro e w5 ⟨rfl, hb⟩
  have HB5 : Hid (Below w.heap.size w w5) := chain HB4.out hb
  have G5 := Lib.hid (HS1.out w5 HB5.out)
  clear hb G4 HB4 HS1
  go_wp2_with fail
  refine G5.out.mono ?_
  rintro e w6 ⟨rfl, hb⟩
  have HB6 : Hid (Below w.heap.size w w6) := chain HB5.out hb
  have G6 := Lib.hid (HS2.out w6 HB6.out)
  clear hb G5 HB5 HS2
  go_wp2_with fail
  refine G6.out.mono ?_
  rintro e w7 ⟨rfl, hb⟩
  have HB7 : Hid (Below w.heap.size w w7) := chain HB6.out hb
  clear hb G6 HB6
  go_wp2_with fail
  go_ret
  exact ⟨rfl, HB7.out⟩
end Go.Proofs.Ytdcofdndkpmpaaa

/-
  What the frames share: slices of states, of loose states, of texts that came in; their bulk.
-/
namespace Go.Proofs.Ytdcofdndkpmpaaa.frame
open Go.ChangeShapes Go.WideShapes Go.ChangeAt Go.RowKit
open Go.ChangeMaps (open_string shut_string)

instance : Inhabited Au.Arc := ⟨⟨0, 0, 0⟩⟩
instance : Inhabited Au.St := ⟨⟨false, []⟩⟩
instance : Inhabited Au.Lo := ⟨⟨false, [], []⟩⟩
theorem own : ownKnob Try.prog.godebug = none := by kernel_rfl
theorem laidOut : laidOutB Try.prog = true := by kernel_rfl
theorem one_le {H : Type} (d : DataW H) : 1 ≤ Rows.uptoBulk d := by
  cases d with
  | lit l => cases l <;> simp [Rows.uptoBulk]
  | nil => simp [Rows.uptoBulk]
  | ptr d => simp [Rows.uptoBulk]
  | slice elems spare => simp [Rows.uptoBulk]
  | agg parts => simp [Rows.uptoBulk]
  | iface t d => simp [Rows.uptoBulk]
  | map entries => simp [Rows.uptoBulk]
  | held h => simp [Rows.uptoBulk]
theorem all_len {H : Type} (l : List (DataW H)) : l.length ≤ Rows.uptoBulkAll l := by
  induction l with
  | nil => exact Nat.zero_le _
  | cons y t ih =>
    simp only [Rows.uptoBulkAll, List.length_cons]
    have := one_le y
    omega
theorem all_sum {H : Type} (l : List (DataW H)) (f : DataW H → Nat) (h : ∀ x ∈ l, f x ≤ Rows.uptoBulk x) : (l.map f).sum ≤ Rows.uptoBulkAll l := by
  induction l with
  | nil => exact Nat.zero_le _
  | cons y t ih =>
    simp only [Rows.uptoBulkAll, List.map_cons, List.sum_cons]
    have h1 := h y (List.mem_cons_self ..)
    have h2 := ih fun x hx => h x (List.mem_cons_of_mem _ hx)
    omega
theorem slice_elems {H : Type} (elems spare : List (DataW H)) : Rows.uptoBulkAll elems + 1 ≤ Rows.uptoBulk (.slice elems spare) := by
  simp only [Rows.uptoBulk]
  omega
theorem string_bulk {H : Type} (s : ByteArray) : Rows.uptoBulk (DataW.lit (H := H) (.string s.data.toList)) = s.size + 1 := by
  simp [Rows.uptoBulk]
theorem bound {H : Type} {l : List (DataW H)} (hk : Rows.uptoSmall H l = true) : Rows.uptoBulkAll l ≤ 1048576 := of_decide_eq_true hk

section
variable {H : Type} {enc : TypeId × Value → H} {W : World}
theorem addr_of {x : Addr} {i : Nat} {v : Value} (hi : i = 0) (h : W.cell? (x.add i) = some v) : ∃ b o, x = ⟨b, o, none⟩ ∧ b < W.heap.size ∧ ∀ j, x.add j = ⟨b, o + j, none⟩ := by
  obtain ⟨b, off, spot⟩ := x
  have hspot : spot = none := by
    have h1 := World.cell?_spot h
    subst hi
    simpa [Addr.add] using h1
  subst hspot
  have hadd : ∀ j, (⟨b, off, none⟩ : Addr).add j = ⟨b, off + j, none⟩ := fun j => by
    unfold Addr.add
    split <;> simp_all
  rw [hadd] at h
  exact ⟨b, off, rfl, World.block_lt_of_cell? W _ h, hadd⟩
/-- A list of numbers in memory. -/
theorem nums_cs {fuel : Nat} {cs : List Value} {x : DataW H × List MemPlace} (h : DataW.trod enc Try.prog W 0 (fun _ => true) true fuel 54 cs = some x) : ∃ v l, cs = [v] ∧ NumS (fun _ => True) W v l := by
  rcases open_ints Try.underlying54 Try.underlying3 (by kernel_rfl) h with ⟨hcs, _⟩ | ⟨x, l, c, zs, hcs, _, hl, hm, hz, _, hcell, _⟩
  · exact ⟨_, [], hcs, none, 0, rfl, Nat.le_refl _, by omega, fun h => by simp at h⟩
  · simp only [if_true] at hz
    have hzt : (zs.take l).length = l := by rw [List.length_take]; omega
    refine ⟨_, zs.take l, hcs, some x, c, by rw [hzt], by omega, by unfold maxLen at hm; omega, fun h0 => ?_⟩
    obtain ⟨b, o, rfl, hb, hadd⟩ := addr_of rfl (hcell 0 (by omega))
    refine ⟨b, o, rfl, hb, trivial, fun j hj => ?_⟩
    have hj' : j < zs.length := by omega
    have := hcell j hj'
    rw [hadd] at this
    rw [this, List.getElem_take]
    simp [List.getD, List.getElem?_eq_getElem hj']
set_option maxRecDepth 100000 in
/-- A list of arcs in memory. -/
theorem arcs_cs {fuel : Nat} {cs : List Value} {x : DataW H × List MemPlace} (h : DataW.trod enc Try.prog W 0 (fun _ => true) true fuel 37 cs = some x) : ∃ v l, cs = [v] ∧ ArcS (fun _ => True) W v l ∧ l.length ≤ Rows.uptoBulk x.1 := by
  rcases Go.Deep.open_slice Try.underlying37 h with ⟨hcs, hx⟩ | ⟨a, len, c, m, n, D, Pl, hcs, _, hl, hm, hmm, hx, hel⟩
  · exact ⟨_, [], hcs, ⟨none, 0, rfl, Nat.le_refl _, by omega, fun h => by simp at h⟩, Nat.zero_le _⟩
  · simp only [if_true] at hmm
    subst hmm
    have hc : Try.prog.cellsOf 41 = 3 := by kernel_rfl
    have c3 : Try.prog.cellsOf 3 = 1 := by kernel_rfl
    simp only [hc] at hel
    have each : ∀ i, i < len → ∃ q : Au.Arc, W.cell? (a.add (i * 3)) = some (.int .i64 q.lo) ∧ W.cell? (a.add (i * 3 + 1)) = some (.int .i64 q.hi) ∧ W.cell? (a.add (i * 3 + 2)) = some (.int .i64 q.to) := by
      intro i hi
      obtain ⟨cs', h1, h2⟩ := hel i (by omega)
      obtain ⟨_, hlen, hcell⟩ := World.cells?_some h1
      obtain ⟨y0, y1, y2, k, hxy, _, g0, g1, g2⟩ := Go.Deep.trod_struct3 Try.underlying41 h2
      match cs', hlen with
      | [v0, v1, v2], _ =>
        simp [c3] at g0 g1 g2
        have e0 := hcell 0 (by omega)
        have e1 := hcell 1 (by omega)
        have e2 := hcell 2 (by omega)
        rw [Go.Deep.add_add] at e0 e1 e2
        obtain ⟨n0, f0, _, _⟩ := DataW.trod_int Try.underlying3 g0
        obtain ⟨n1, f1, _, _⟩ := DataW.trod_int Try.underlying3 g1
        obtain ⟨n2, f2, _, _⟩ := DataW.trod_int Try.underlying3 g2
        simp at f0 f1 f2
        subst f0 f1 f2
        exact ⟨⟨n0, n1, n2⟩, by simpa using e0, by simpa using e1, by simpa using e2⟩
    have hd : x.1 = .slice ((List.range len).map D) ((List.range (m - len)).map fun j => D (len + j)) := by rw [hx]
    have hb := slice_elems ((List.range len).map D) ((List.range (m - len)).map fun j => D (len + j))
    rw [← hd] at hb
    have hb2 := all_len ((List.range len).map D)
    rw [List.length_map, List.length_range] at hb2
    by_cases h0 : len = 0
    · subst h0
      exact ⟨_, [], hcs, ⟨some a, m, rfl, Nat.zero_le _, by unfold maxLen at hm; omega, fun h => by simp at h⟩, Nat.zero_le _⟩
    · obtain ⟨q, hq⟩ := Go.Deep.choose_lt (p := fun i (q : Au.Arc) => W.cell? (a.add (i * 3)) = some (.int .i64 q.lo) ∧ W.cell? (a.add (i * 3 + 1)) = some (.int .i64 q.hi) ∧ W.cell? (a.add (i * 3 + 2)) = some (.int .i64 q.to)) each
      obtain ⟨b, o, rfl, hbl, hadd⟩ := addr_of rfl (hq 0 (by omega)).1
      have hlq : ((List.range len).map q).length = len := by simp
      refine ⟨_, (List.range len).map q, hcs, ⟨some ⟨b, o, none⟩, m, by rw [hlq], by rw [hlq]; exact hl, by unfold maxLen at hm; omega, fun _ => ⟨b, o, rfl, hbl, trivial, fun j hj => ?_⟩⟩, by rw [hlq]; omega⟩
      have hj' : j < len := by rw [hlq] at hj; exact hj
      obtain ⟨t0, t1, t2⟩ := hq j hj'
      rw [hadd] at t0 t1 t2
      rw [List.getElem_map, List.getElem_range]
      exact ⟨t0, t1, t2⟩
set_option maxRecDepth 100000 in
/-- A list of states that came in. -/
theorem sts_of {a : Option Addr} {len cap : Nat} {d : DataW H} {p : List MemPlace} (h : DataW.Trod enc Try.prog W 0 (fun _ => true) true 22 (.slice a len cap) d p) : ∃ l, StS (fun _ => True) W (.slice a len cap) l := by
  obtain ⟨fuel, hf⟩ := h
  rcases Go.Deep.open_slice Try.underlying22 hf with ⟨hcs, _⟩ | ⟨x, l, c, m, n, D, Pl, hcs, _, hl, hm, hmm, hx, hel⟩
  · simp [Value.cells] at hcs
    obtain ⟨rfl, rfl, rfl⟩ := hcs
    exact ⟨[], none, 0, rfl, Nat.le_refl _, by omega, fun h => by simp at h⟩
  · simp [Value.cells] at hcs
    obtain ⟨rfl, rfl, rfl⟩ := hcs
    simp only [if_true] at hmm
    subst hmm
    have hc : Try.prog.cellsOf 39 = 2 := by kernel_rfl
    have c4 : Try.prog.cellsOf 4 = 1 := by kernel_rfl
    have c37 : Try.prog.cellsOf 37 = 1 := by kernel_rfl
    simp only [hc] at hel
    have each : ∀ i, i < len → ∃ q : Au.St, W.cell? (x.add (i * 2)) = some (.bool q.fin) ∧ ∃ va, W.cell? (x.add (i * 2 + 1)) = some va ∧ ArcS (fun _ => True) W va q.arcs := by
      intro i hi
      obtain ⟨cs', h1, h2⟩ := hel i (by omega)
      obtain ⟨_, hlen, hcell⟩ := World.cells?_some h1
      obtain ⟨y0, y1, k, hxy, _, g0, g1⟩ := trod_struct2 Try.underlying39 h2
      match cs', hlen with
      | [v0, v1], _ =>
        simp [c4, c37] at g0 g1
        have e0 := hcell 0 (by omega)
        have e1 := hcell 1 (by omega)
        rw [Go.Deep.add_add] at e0 e1
        obtain ⟨b, f0, _⟩ := DataW.trod_bool Try.underlying4 g0
        obtain ⟨v, l, f1, f2, _⟩ := arcs_cs g1
        simp at f0 f1
        subst f0 f1
        exact ⟨⟨b, l⟩, by simpa using e0, _, by simpa using e1, f2⟩
    by_cases h0 : len = 0
    · subst h0
      exact ⟨[], some x, m, rfl, Nat.zero_le _, by unfold maxLen at hm; omega, fun h => by simp at h⟩
    · obtain ⟨q, hq⟩ := Go.Deep.choose_lt (p := fun i (q : Au.St) => W.cell? (x.add (i * 2)) = some (.bool q.fin) ∧ ∃ va, W.cell? (x.add (i * 2 + 1)) = some va ∧ ArcS (fun _ => True) W va q.arcs) each
      obtain ⟨b, o, rfl, hbl, hadd⟩ := addr_of rfl (hq 0 (by omega)).1
      have hlq : ((List.range len).map q).length = len := by simp
      refine ⟨(List.range len).map q, some ⟨b, o, none⟩, m, by rw [hlq], by rw [hlq]; exact hl, by unfold maxLen at hm; omega, fun _ => ⟨b, o, rfl, hbl, trivial, fun j hj => ?_⟩⟩
      have hj' : j < len := by rw [hlq] at hj; exact hj
      obtain ⟨t0, va, t1, t2⟩ := hq j hj'
      rw [hadd] at t0 t1
      rw [List.getElem_map, List.getElem_range]
      exact ⟨t0, va, t1, t2⟩
set_option maxRecDepth 100000 in
/-- A list of loose states that came in; how many arcs there are in all. -/
theorem los_of {a : Option Addr} {len cap : Nat} {d : DataW H} {p : List MemPlace} (h : DataW.Trod enc Try.prog W 0 (fun _ => true) true 31 (.slice a len cap) d p) : ∃ l, LoS (fun _ => True) W (.slice a len cap) l ∧ l.length ≤ Rows.uptoBulk d ∧ (l.map fun s => s.arcs.length).sum ≤ Rows.uptoBulk d := by
  obtain ⟨fuel, hf⟩ := h
  rcases Go.Deep.open_slice Try.underlying31 hf with ⟨hcs, _⟩ | ⟨x, l, c, m, n, D, Pl, hcs, _, hl, hm, hmm, hx, hel⟩
  · simp [Value.cells] at hcs
    obtain ⟨rfl, rfl, rfl⟩ := hcs
    exact ⟨[], ⟨none, 0, rfl, Nat.le_refl _, by omega, fun h => by simp at h⟩, Nat.zero_le _, Nat.zero_le _⟩
  · simp [Value.cells] at hcs
    obtain ⟨rfl, rfl, rfl⟩ := hcs
    simp only [if_true] at hmm
    subst hmm
    have hc : Try.prog.cellsOf 56 = 3 := by kernel_rfl
    have c4 : Try.prog.cellsOf 4 = 1 := by kernel_rfl
    have c37 : Try.prog.cellsOf 37 = 1 := by kernel_rfl
    have c54 : Try.prog.cellsOf 54 = 1 := by kernel_rfl
    simp only [hc] at hel
    have hd : d = .slice ((List.range len).map D) ((List.range (m - len)).map fun j => D (len + j)) := congrArg Prod.fst hx
    have hb := slice_elems ((List.range len).map D) ((List.range (m - len)).map fun j => D (len + j))
    rw [← hd] at hb
    have hb2 := all_len ((List.range len).map D)
    rw [List.length_map, List.length_range] at hb2
    have each : ∀ i, i < len → ∃ q : Au.Lo, W.cell? (x.add (i * 3)) = some (.bool q.fin) ∧ (∃ va, W.cell? (x.add (i * 3 + 1)) = some va ∧ ArcS (fun _ => True) W va q.arcs) ∧ (∃ vf, W.cell? (x.add (i * 3 + 2)) = some vf ∧ NumS (fun _ => True) W vf q.free) ∧ q.arcs.length ≤ Rows.uptoBulk (D i) := by
      intro i hi
      obtain ⟨cs', h1, h2⟩ := hel i (by omega)
      obtain ⟨_, hlen, hcell⟩ := World.cells?_some h1
      obtain ⟨y0, y1, y2, k, hxy, _, g0, g1, g2⟩ := Go.Deep.trod_struct3 Try.underlying56 h2
      match cs', hlen with
      | [v0, v1, v2], _ =>
        simp [c4, c37, c54] at g0 g1 g2
        have e0 := hcell 0 (by omega)
        have e1 := hcell 1 (by omega)
        have e2 := hcell 2 (by omega)
        rw [Go.Deep.add_add] at e0 e1 e2
        obtain ⟨b, f0, _⟩ := DataW.trod_bool Try.underlying4 g0
        obtain ⟨v, l, f1, f2, f3⟩ := arcs_cs g1
        obtain ⟨u, r, f4, f5⟩ := nums_cs g2
        simp at f0 f1 f4
        subst f0 f1 f4
        have hDi : D i = .agg [y0.1, y1.1, y2.1] := congrArg Prod.fst hxy
        refine ⟨⟨b, l, r⟩, by simpa using e0, ⟨_, by simpa using e1, f2⟩, ⟨_, by simpa using e2, f5⟩, ?_⟩
        rw [hDi]
        simp only [Rows.uptoBulk, Rows.uptoBulkAll]
        show l.length ≤ _
        omega
    by_cases h0 : len = 0
    · subst h0
      exact ⟨[], ⟨some x, m, rfl, Nat.zero_le _, by unfold maxLen at hm; omega, fun h => by simp at h⟩, Nat.zero_le _, Nat.zero_le _⟩
    · obtain ⟨q, hq⟩ := Go.Deep.choose_lt (p := fun i (q : Au.Lo) => W.cell? (x.add (i * 3)) = some (.bool q.fin) ∧ (∃ va, W.cell? (x.add (i * 3 + 1)) = some va ∧ ArcS (fun _ => True) W va q.arcs) ∧ (∃ vf, W.cell? (x.add (i * 3 + 2)) = some vf ∧ NumS (fun _ => True) W vf q.free) ∧ q.arcs.length ≤ Rows.uptoBulk (D i)) each
      obtain ⟨b, o, rfl, hbl, hadd⟩ := addr_of rfl (hq 0 (by omega)).1
      have hlq : ((List.range len).map q).length = len := by simp
      refine ⟨(List.range len).map q, ⟨some ⟨b, o, none⟩, m, by rw [hlq], by rw [hlq]; exact hl, by unfold maxLen at hm; omega, fun _ => ⟨b, o, rfl, hbl, trivial, fun j hj => ?_⟩⟩, by rw [hlq]; omega, ?_⟩
      · have hj' : j < len := by rw [hlq] at hj; exact hj
        obtain ⟨t0, ⟨va, t1, t2⟩, ⟨vf, t3, t4⟩, _⟩ := hq j hj'
        rw [hadd] at t0 t1 t3
        rw [List.getElem_map, List.getElem_range]
        exact ⟨t0, ⟨va, t1, t2⟩, vf, t3, t4⟩
      · have hs : (((List.range len).map q).map fun s => s.arcs.length).sum ≤ (((List.range len).map D).map Rows.uptoBulk).sum := by
          rw [List.map_map, List.map_map]
          have key : ∀ L : List Nat, (∀ i ∈ L, i < len) → (L.map ((fun s : Au.Lo => s.arcs.length) ∘ q)).sum ≤ (L.map (Rows.uptoBulk ∘ D)).sum := by
            intro L
            induction L with
            | nil => intro _; exact Nat.le_refl _
            | cons y t ih =>
              intro hL
              simp only [List.map_cons, List.sum_cons]
              have h1 := (hq y (hL y (List.mem_cons_self ..))).2.2.2
              have h2 := ih fun i hi => hL i (List.mem_cons_of_mem _ hi)
              show (q y).arcs.length + _ ≤ Rows.uptoBulk (D y) + _
              omega
          exact key _ fun i hi => List.mem_range.1 hi
        have h2 := all_sum ((List.range len).map D) Rows.uptoBulk fun _ _ => Nat.le_refl _
        omega
end
end Go.Proofs.Ytdcofdndkpmpaaa.frame

/-
  The program's Both.
-/
namespace Go.Proofs.Ytdcofdndkpmpaaa
open Go.RowKit
set_option maxRecDepth 100000 in
set_option maxHeartbeats 2000000 in
theorem bothP_bad (F G : Nat → Prop) (w : World) (u v : Value) (a b : List Au.St) (most : Int) (hu : StS F w u a) (hv : StS G w v b) (hck : ¬ (Au.check a = 0 ∧ Au.check b = 0)) :
    Calls Try.prog 19 #[u, v, .int .i64 most] w fun e w' => ∃ r, e = .returned (.tuple #[r, .int .i64 (Au.bothE a b most)]) ∧ StS (fun g => w.heap.size ≤ g) w' r (Au.bothL a b most) ∧ Below w.heap.size w w' := by
  have HA := Lib.hid (checkP_any F w u a hu)
  have HB : Hid (∀ W, Below w.heap.size w W → Calls Try.prog 9 #[v] W fun e w' => e = .returned (.int .i64 (Au.check b)) ∧ Below W.heap.size W w') := fun W hb => checkP_any G W v b (hv.below hb)
  have HE := Lib.hid (Au.both_out_bad (most := most) hck)
  by_cases hca : Au.check a = 0
  · have hcb : ¬ Au.check b = 0 := fun h => hck ⟨hca, h⟩
    rw [hca] at HA
    clear hck hca hu hv
    generalize Au.check b = cb at *
    have hcb2 : (cb == (0 : Int)) = false := by simpa using hcb
    go_enter Try.func19, Try.ntmps19
    go_wp2_with fail
    refine HA.out.mono ?_
    rintro e w1 ⟨rfl, hb⟩
    have HB1 := Lib.hid hb
    have H2 := Lib.hid (HB.out w1 hb)
    clear hb
    go_wp2_with fail
    refine H2.out.mono ?_
    rintro e w2 ⟨rfl, hb⟩
    have HB2 : Hid (Below w.heap.size w w2) := chain HB1.out hb
    clear hb
    go_wp2_with fail
    go_ret2
    refine ⟨.slice none 0 0, ?_, ?_, HB2.out⟩
    · rw [HE.out.1]
      rfl
    · rw [HE.out.2]
      exact StS.nil _ _
  · clear hck hu hv
    generalize Au.check a = ca at *
    have hca2 : (ca == (0 : Int)) = false := by simpa using hca
    go_enter Try.func19, Try.ntmps19
    go_wp2_with fail
    refine HA.out.mono ?_
    rintro e w1 ⟨rfl, hb⟩
    have HB1 := Lib.hid hb
    clear hb
    go_wp2_with fail
    go_ret2
    refine ⟨.slice none 0 0, ?_, ?_, HB1.out⟩
    · rw [HE.out.1]
      rfl
    · rw [HE.out.2]
      exact StS.nil _ _


theorem encP_inj {s t : Nat × Nat} (h1 : s.1 ≤ 1099511627776 ∧ s.2 ≤ 1099511627776) (h2 : t.1 ≤ 1099511627776 ∧ t.2 ≤ 1099511627776) (h : encP s = encP t) : s = t := by
  have wf : ∀ p : Nat × Nat, p.1 ≤ 1099511627776 ∧ p.2 ≤ 1099511627776 → Wf [(p.1 : Int), (p.2 : Int)] := fun p hp x hx => by
    simp at hx
    rcases hx with rfl | rfl
    · omega
    · omega
  have := encI_inj (wf s h1) (wf t h2) h
  simp only [List.cons.injEq, and_true] at this
  exact Prod.ext (by omega) (by omega)
theorem encP_size (s : Nat × Nat) : (encP s).size ≤ 18 := encI_size_le _
/-- What holds while pairs are met. -/
structure PInv (B p : Nat) (u v : Value) (a b : List Au.St) (W : World) : Prop where
  prow : W.heap[p]? = some (.cells #[u, v] 77 (0, 0))
  sa : StS (fun g => g < B) W u a
  sb : StS (fun g => g < B) W v b
theorem PInv.below {B p C : Nat} {u v : Value} {a b : List Au.St} {W W' : World} (h : PInv B p u v a b W) (hb : Below C W W') (hp : p < C) (hB : B ≤ C) : PInv B p u v a b W' :=
  ⟨(hb.block p hp).trans h.prow, h.sa.keep hb.size fun g hg _ => hb.block g (by omega), h.sb.keep hb.size fun g hg _ => hb.block g (by omega)⟩
theorem meets_pairs (B p : Nat) (u v : Value) (a b : List Au.St) (w : World) (most : Int) (ha : Au.Fits a) (hb : Au.Fits b) (hs : a.length * b.length ≤ 20000) (h : PInv B p u v a b w) (hBp : B ≤ p) :
    Calls Try.prog 30 #[.string (encP (0, 0)), .int .i64 most, .func (.func 41) #[.pointer (some ⟨p, 0, none⟩)] #[]] w (MeetP (Au.pair (Au.ofL a) (Au.ofL b)).plain (0, 0) most p w) := by
  have hpl : p < w.heap.size := (Array.getElem?_eq_some_iff.1 h.prow).1
  have hat := ha.top
  have hbt := hb.top
  refine meet_any (Au.pair (Au.ofL a) (Au.ofL b)).plain encP (fun s => s.1 < a.length ∧ s.2 < b.length) (PInv B p u v a b) p w 41 (.pointer (some ⟨p, 0, none⟩)) (0, 0) most 20000 (fun s => decide_eq_true rfl) (fun s c t hp hg => Au.pair_go_in ha hb s c t hp hg) ⟨ha.pos, hb.pos⟩ (fun s t hs ht => ?_) (fun s hs => by have := encP_size s; omega) (by omega) (.inr fun i => Nat.le_trans (Au.pair_few ha.row hb.row ha.pos hb.pos i) hs) hpl h (fun W W' hW hb => hW.below hb hpl (by omega)) (fun args w => rfl) (fun w2 s hw2 hi hs => ?_)
  · show decide (s = t) = decide (encP s = encP t)
    by_cases e : s = t
    · subst e; rw [decide_eq_true rfl, decide_eq_true rfl]
    · rw [decide_eq_false e, decide_eq_false fun e2 => e (encP_inj ⟨by omega, by omega⟩ ⟨by omega, by omega⟩ e2)]
  · refine (pairLook_any (fun g => g < B) w2 p u v a b s hi.prow hi.sa hi.sb ha hb hs.1 hs.2).mono ?_
    rintro e w' ⟨v', rfl, hlds, hbl⟩
    have hp2 : p < w2.heap.size := Nat.lt_of_lt_of_le hpl hw2
    exact ⟨v', _, rfl, Au.pair_leads ha.row hb.row s.1 s.2, hlds, KeptF.of_below hbl, hi.below hbl hp2 (by omega)⟩

set_option maxRecDepth 100000 in
set_option maxHeartbeats 2000000 in
theorem bothP_any (F G : Nat → Prop) (w : World) (u v : Value) (a b : List Au.St) (most : Int) (hu : StS F w u a) (hv : StS G w v b) (hs : a.length * b.length ≤ 20000) :
    Calls Try.prog 19 #[u, v, .int .i64 most] w fun e w' => ∃ r, e = .returned (.tuple #[r, .int .i64 (Au.bothE a b most)]) ∧ StS (fun g => w.heap.size ≤ g) w' r (Au.bothL a b most) ∧ Below w.heap.size w w' := by
  by_cases hck : Au.check a = 0 ∧ Au.check b = 0
  rotate_left
  · exact bothP_bad F G w u v a b most hu hv hck
  have HA := Lib.hid (checkP_any F w u a hu)
  have HB : Hid (∀ W, Below w.heap.size w W → Calls Try.prog 9 #[v] W fun e w' => e = .returned (.int .i64 (Au.check b)) ∧ Below W.heap.size W w') := fun W hb => checkP_any G W v b (hv.below hb)
  have HOM := Lib.hid (fun h2 => Au.both_out_many (most := most) hck h2)
  have HOF := Lib.hid (fun h2 => Au.both_out_few (most := most) hck h2)
  have HFA := Lib.hid ((Au.check_iff a).1 hck.1)
  have HFB := Lib.hid ((Au.check_iff b).1 hck.2)
  rw [hck.1] at HA
  rw [hck.2] at HB
  have HU := Lib.hid hu
  have HV := Lib.hid hv
  obtain ⟨ada, cda, rfl, hj1⟩ := hu
  obtain ⟨adb, cdb, rfl, hj2⟩ := hv
  clear hck hj1 hj2
  go_enter Try.func19, Try.ntmps19
  go_wp2_with fail
  refine HA.out.mono ?_
  rintro e w1 ⟨rfl, hb⟩
  have HB1 := Lib.hid hb
  have H2 := Lib.hid (HB.out w1 hb)
  clear hb HA HB
  go_wp2_with fail
  refine H2.out.mono ?_
  rintro e w2 ⟨rfl, hb⟩
  have HB2 : Hid (Below w.heap.size w w2) := chain HB1.out hb
  clear hb HB1 H2
  have hb4 : Hid (Below w.heap.size w ((w2.alloc (.cells #[.slice ada a.length cda, .slice adb b.length cdb] 77)).alloc (.cells #[.int .i64 0, .int .i64 0] 3))) := by
    have := HB2.out.size
    exact (HB2.out.alloc this _).alloc (by simp; omega) _
  have HP : Hid (PInv w.heap.size w2.heap.size (.slice ada a.length cda) (.slice adb b.length cdb) a b ((w2.alloc (.cells #[.slice ada a.length cda, .slice adb b.length cdb] 77)).alloc (.cells #[.int .i64 0, .int .i64 0] 3))) :=
    ⟨(Go.Deep.blk_alloc_lt _ _ _ (by simp)).trans (Go.Deep.blk_alloc_new _ _), (HU.out.wide (G := fun g => g < w.heap.size) fun g hg _ => hg).below hb4.out, (HV.out.wide (G := fun g => g < w.heap.size) fun g hg _ => hg).below hb4.out⟩
  have hcl : Hid (∀ (j : Nat) (h : j < [(0 : Int), 0].length), ((w2.alloc (.cells #[.slice ada a.length cda, .slice adb b.length cdb] 77)).alloc (.cells #[.int .i64 0, .int .i64 0] 3)).cell? ⟨w2.heap.size + 1, 0 + j, none⟩ = some (.int .i64 [(0 : Int), 0][j])) := fun j h => by
    have h2 : (w2.alloc (.cells #[.slice ada a.length cda, .slice adb b.length cdb] 77)).heap.size = w2.heap.size + 1 := by simp
    have := cell_at (w2.alloc (.cells #[.slice ada a.length cda, .slice adb b.length cdb] 77)) [.int .i64 0, .int .i64 0] 3
    rw [h2] at this
    rw [Nat.zero_add]
    match j, h with
    | 0, _ => exact this 0 _ rfl
    | 1, _ => exact this 1 _ rfl
  have HSZ : Hid (w2.heap.size + 1 < ((w2.alloc (.cells #[.slice ada a.length cda, .slice adb b.length cdb] 77)).alloc (.cells #[.int .i64 0, .int .i64 0] 3)).heap.size) := by show _ < _; simp
  have HLE : Hid (w.heap.size ≤ w2.heap.size) := HB2.out.size
  clear HB2 HU HV
  go_wp2_with fail
  generalize (w2.alloc (.cells #[.slice ada a.length cda, .slice adb b.length cdb] 77)).alloc (.cells #[.int .i64 0, .int .i64 0] 3) = w4 at *
  generalize w2.heap.size = p at *
  have HNU := Lib.hid (nums_any w4 [(0 : Int), 0] 2 2 (p + 1) 0 (by omega) rfl HSZ.out hcl.out (fun n hn => by simp at hn; omega))
  refine HNU.out.mono ?_
  rintro e w5 ⟨rfl, hb5⟩
  have HB5 : Hid (Below w.heap.size w w5) := chain hb4.out hb5
  have HP5 : Hid (PInv w.heap.size p (.slice ada a.length cda) (.slice adb b.length cdb) a b w5) := HP.out.below hb5 (by have := HSZ.out; omega) (by have := hb4.out.size; omega)
  have HME : Hid (Calls Try.prog 30 #[.string ⟨(Pl.numsB [(0 : Int), 0]).toArray⟩, .int .i64 most, .func (.func 41) #[.pointer (some ⟨p, 0, none⟩)] #[]] w5 (MeetP (Au.pair (Au.ofL a) (Au.ofL b)).plain (0, 0) most p w5)) := meets_pairs w.heap.size p _ _ a b w5 most HFA.out HFB.out hs HP5.out HLE.out
  have HLS : Hid (∀ i, (Au.pair (Au.ofL a) (Au.ofL b)).plain.Done (0, 0) i → (((Au.pair (Au.ofL a) (Au.ofL b)).plain.met (0, 0) i).length : Int) ≤ most → ∀ W v, StS (fun g => w5.heap.size ≤ g) W v ((Au.pair (Au.ofL a) (Au.ofL b)).plain.out (0, 0) i) → Calls Try.prog 33 #[v] W fun e w' => ∃ r, e = .returned r ∧ StS (fun g => W.heap.size ≤ g) w' r (Au.bothL a b most) ∧ Au.bothE a b most = 0 ∧ Below W.heap.size W w') := fun i hdn hle W v hv => by
    obtain ⟨f1, f2⟩ := Au.pairs_few HFA.out HFB.out i hdn
    obtain ⟨e1, e2⟩ := HOF.out (by rw [f1]; exact hle)
    obtain ⟨r1, r2⟩ := Au.meets_rows HFA.out HFB.out
    have r3 := Au.meets_len a b
    have r4 := Au.pair_few HFA.out.row HFB.out.row HFA.out.pos HFB.out.pos i
    refine (leastP_any _ W v (Au.meets a b) ⟨r1, by omega, r2⟩ (by rw [f2]; exact hv)).mono ?_
    rintro e w' ⟨r, rfl, h1, h2⟩
    exact ⟨r, rfl, by rw [e2]; exact h1.sts, e1, h2⟩
  clear hb5 HNU HP hcl HSZ
  go_wp2_with fail
  refine HME.out.mono ?_
  rintro e w6 ⟨v, er, rfl, hk6, h6⟩
  have HB6 : Hid (Below w.heap.size w w6) := KeptF.below HB5.out hk6 (fun k hk => by rw [hk]; exact HLE.out) HB5.out.size
  clear hk6 HME
  rcases h6 with ⟨rfl, i, hdn, hle, hst⟩ | ⟨rfl, rfl, i, hgt⟩
  · have H6 := Lib.hid (HLS.out i hdn hle w6 v hst)
    obtain ⟨av, cv, rfl, hjunk⟩ := hst
    clear hjunk hdn hle
    go_wp2_with fail
    refine H6.out.mono ?_
    rintro e w7 ⟨r, rfl, h1, h2, h3⟩
    have H7 := Lib.hid (And.intro h1 (And.intro h2 h3))
    clear h1 h2 h3
    go_wp2_with fail
    go_ret2
    exact ⟨r, by rw [H7.out.2.1]; rfl, H7.out.1.wide fun g _ hg => Nat.le_trans HB6.out.size hg, chain HB6.out H7.out.2.2⟩
  · obtain ⟨e1, e2⟩ := HOM.out (by have := Au.pairs_many HFA.out HFB.out i hgt; omega)
    have E1 := Lib.hid e1
    have E2 := Lib.hid e2
    clear e1 e2
    go_wp2_with fail
    go_ret2
    exact ⟨.slice none 0 0, by rw [E1.out]; rfl, by rw [E2.out]; exact StS.nil _ _, HB6.out⟩
end Go.Proofs.Ytdcofdndkpmpaaa

/-
  DfaTakes: the walk.
-/
namespace Go.Proofs.Ytdcofdndkpmpaaa
open Go.RowKit
/-- A slice of texts that came in: empty, or a row of cells. -/
def TxtS (w : World) (a : Option Addr) (len : Nat) (ss : List ByteArray) : Prop :=
  ss.length = len ∧ (0 < len → ∃ b off, a = some ⟨b, off, none⟩ ∧ b < w.heap.size ∧ ∀ i (hi : i < ss.length), w.cell? ⟨b, off + i, none⟩ = some (.string ss[i]))

set_option maxRecDepth 100000 in
set_option maxHeartbeats 4000000 in
theorem takes_walk (w : World) (F : Nat → Prop) (u : Value) (d : List Au.Lo) (a : Option Addr) (len cap : Nat) (ss : List ByteArray) (hu : LoS F w u d) (hd : d.length ≤ 1048576) (hbig : ∀ S, (Au.rowsOf d S).flatten.length ≤ 1099511627776) (ht : TxtS w a len ss) (hs : ∀ s ∈ ss, s.size ≤ 9223372036854775806) (hlen : len ≤ 9223372036854775807) :
    Calls Try.prog 6 #[u, .slice a len cap] w fun e w' => e = .returned (.bool true) ∧ Below w.heap.size w w' := by
  have HU : Hid (∀ W, Below w.heap.size w W → LoS F W u d) := fun W hb => hu.below hb
  have HM : Hid (∀ W, Below w.heap.size w W → _) := fun W hb => may_any F W u d (HU.out W hb)
  have HT : Hid (∀ W, Below w.heap.size w W → _) := fun W hb => tightP_any F W u d 20000 (HU.out W hb) hd hbig (by omega)
  have HK : Hid (∀ W s, Below w.heap.size w W → Au.May d → s ∈ ss → _) := fun W s hb hm hin => takes_any F W u d s (hs s hin) (HU.out W hb) hm (by omega)
  have HSS := Lib.hid hs
  have HTX := Lib.hid ht
  obtain ⟨ad, cd, rfl, hjunk⟩ := hu
  obtain ⟨n, hdn⟩ : ∃ n, d.length = n := ⟨_, rfl⟩
  rw [hdn] at HM HT HK hd ⊢
  clear hjunk hdn HU hbig hs ht
  go_enter Try.func6, Try.ntmps6
  go_wp2_with fail
  refine (awake_any w).mono ?_
  rintro e w1 ⟨rfl, hb⟩
  have HB1 := Lib.hid hb
  clear hb
  by_cases hn : (n : Int) ≤ 14
  rotate_left
  · have hn2 : (14 : Int) < (n : Int) := by omega
    clear HM HT HK
    go_wp2_with fail
    refine (awake_any w1).mono ?_
    rintro e w2 ⟨rfl, hb⟩
    have HB2 : Hid (Below w.heap.size w w2) := chain HB1.out hb
    clear hb
    go_wp2_with fail
    go_ret
    exact ⟨rfl, HB2.out⟩
  have hn2 : ¬ (14 : Int) < (n : Int) := by omega
  have H2 := Lib.hid (HM.out w1 HB1.out)
  clear HM
  go_wp2_with fail
  refine H2.out.mono ?_
  rintro e w2 ⟨rfl, hb⟩
  have HB2 : Hid (Below w.heap.size w w2) := chain HB1.out hb
  clear hb H2 HB1
  cases hmay : Au.may d with
  | false =>
    clear HT HK
    go_wp2_with fail
    refine (awake_any w2).mono ?_
    rintro e w3 ⟨rfl, hb⟩
    have HB3 : Hid (Below w.heap.size w w3) := chain HB2.out hb
    clear hb
    go_wp2_with fail
    go_ret
    exact ⟨rfl, HB3.out⟩
  | true =>
    have hM := (Au.may_true d).1 hmay
    obtain ⟨o1, o2⟩ := Au.tight_outs (d := d) (most := 20000) hmay
    have H3 := Lib.hid (HT.out w2 HB2.out)
    clear HT
    go_wp2_with fail
    refine H3.out.mono ?_
    rintro e w3 ⟨v, rfl, hv, hb⟩
    have HB3 : Hid (Below w.heap.size w w3) := chain HB2.out hb
    clear hb H3 HB2
    cases htg : Au.tight d 20000 with
    | none =>
      obtain ⟨e1, e2⟩ := o1 htg
      rw [e1]
      rw [e2] at hv
      obtain ⟨av, cv, rfl, hjunk⟩ := hv.sts
      clear hjunk hv o1 o2 e1 e2 HK
      go_wp2_with fail
      go_ret
      exact ⟨rfl, HB3.out⟩
    | some r =>
      obtain ⟨e1, e2⟩ := o2 r htg
      rw [e1]
      rw [e2] at hv
      have hfit := Au.tight_fits hM (by omega) htg
      have htk := Au.tight_takes hM htg
      have HV : Hid (∀ W, Below w3.heap.size w3 W → StS (fun _ => True) W v r) := fun W hb => (hv.sts.below hb).wide fun _ _ _ => trivial
      have HC : Hid (Calls Try.prog 9 #[v] w3 fun e w' => e = .returned (.int .i64 0) ∧ Below w3.heap.size w3 w') := by
        have := checkP_any _ w3 v r (HV.out w3 (Below.refl _ _))
        rw [(Au.check_iff r).2 hfit] at this
        exact this
      have HA : Hid (∀ W s, Below w3.heap.size w3 W → s ∈ ss → Calls Try.prog 11 #[v, .string s] W fun e w' => e = .returned (.bool (Au.takes d (Au.first d) (s.data.toList.map UInt8.toNat))) ∧ Below W.heap.size W w') := fun W s hb hin => by
        have := acceptsP_any _ W v r s (HSS.out s hin) (HV.out W hb)
        rw [Au.takesL_of hfit, htk] at this
        exact this
      have HMAY := Lib.hid hM
      obtain ⟨av, cv, rfl, hjunk⟩ := hv.sts
      clear hjunk hv o1 o2 e1 e2 hfit htk HV hM hmay htg
      go_wp2_with fail
      refine HC.out.mono ?_
      rintro e w4 ⟨rfl, hb⟩
      have HB4 := Lib.hid hb
      clear hb HC
      go_wp2_with fail
      go_loopg [7] len (fun gg s7 wx => ∃ (i : Nat), i ≤ len ∧ gg = len - i ∧ s7 = .int .i64 i ∧ Hid (Below w3.heap.size w3 wx))
      case atStart => exact ⟨0, Nat.zero_le _, rfl, rfl, HB4⟩
      case round =>
        clear HB4
        obtain ⟨i, hi, rfl, rfl, hB⟩ := hrel
        have hBw : Hid (Below w.heap.size w wr) := chain HB3.out hB.out
        by_cases hil : i < len
        · have j1 : (i : Int) < (len : Int) := by omega
          by_cases hi20 : (i : Int) < 20
          · have hiS : i < ss.length := by rw [HTX.out.1]; exact hil
            obtain ⟨bt, ot, rfl, lbt, hcl⟩ := HTX.out.2 (by omega)
            have hS : Hid (∀ W, Below wr.heap.size wr W → W.cell? ⟨bt, ot + i, none⟩ = some (.string ss[i])) := fun W hb => (cell_same (a := ⟨bt, ot + i, none⟩) ((chain hBw.out hb).block bt lbt)).trans (hcl i hiS)
            have HA1 : Hid (∀ W, Below wr.heap.size wr W → _) := fun W hb => HA.out W ss[i] (chain hB.out hb) (List.getElem_mem hiS)
            have HK1 : Hid (∀ W, Below wr.heap.size wr W → _) := fun W hb => HK.out W ss[i] (chain hBw.out hb) HMAY.out (List.getElem_mem hiS)
            have c0 := hS.out wr (Below.refl _ _)
            generalize ss[i] = s at *
            clear hcl
            go_upto_region 9 with (fail)
            have HQ : Hid (Below wr.heap.size wr wr.drew) := (Below.refl _ _).drew
            go_region_held3 (fun W => W.cell? ⟨bt, ot + i, none⟩ = some (.string s) ∧ Below wr.heap.size wr W) (first | exact ⟨hS.out _ (Below.refl _ _).drew, (Below.refl _ _).drew⟩ | exact ⟨hS.out _ hbx, hbx⟩ | exact ⟨hS.out _ hby, hby⟩) (first | (go_at_call 11; refine (HA1.out _ (by assumption)).mono ?_; rintro e wx ⟨rfl, hbx0⟩; have hbx := chain (by assumption) hbx0) | (go_at_call 24; refine (HK1.out _ (by assumption)).mono ?_; rintro e wy ⟨rfl, hby0⟩; have hby := chain (by assumption) hby0))
            all_goals
              go_wp2_with fail
              go_roundg (len - (i + 1))
              case rel => exact ⟨i + 1, by omega, rfl, by go_num, by first | exact chain hB.out hby | exact chain hB.out hbx⟩
              case measure => omega
          · clear HA HK
            go_wp2_with fail
            go_ret
            exact ⟨rfl, hBw.out⟩
        · clear HA HK
          go_wp2_with fail
          go_ret
          exact ⟨rfl, hBw.out⟩
end Go.Proofs.Ytdcofdndkpmpaaa

/-
  What the frames share: slices of texts that came in.
-/
namespace Go.Proofs.Ytdcofdndkpmpaaa.frame
open Go.ChangeShapes Go.WideShapes Go.ChangeAt Go.RowKit
open Go.ChangeMaps (open_string shut_string)
theorem strs_of {H : Type} {enc : TypeId × Value → H} {W : World} {t e : TypeId} {a : Option Addr} {len cap : Nat} {d : DataW H} {p : List MemPlace} (ht : Try.prog.underlying t = some (.slice e)) (he : Try.prog.underlying e = some .string) (hc : Try.prog.cellsOf e = 1)
    (h : DataW.Trod enc Try.prog W 0 (fun _ => true) true t (.slice a len cap) d p) : ∃ ss, TxtS W a len ss ∧ (∀ s ∈ ss, s.size ≤ Rows.uptoBulk d) ∧ len ≤ 9223372036854775807 := by
  obtain ⟨fuel, hf⟩ := h
  rcases open_strings ht he hc hf with ⟨hcs, hx⟩ | ⟨x, l, c, ss, hcs, _, hl, hm, hz, hx, hcell, hws⟩
  · simp [Value.cells] at hcs
    obtain ⟨rfl, rfl, rfl⟩ := hcs
    exact ⟨[], ⟨rfl, fun h => absurd h (by omega)⟩, fun s hs => (by cases hs), by omega⟩
  · simp [Value.cells] at hcs
    obtain ⟨rfl, rfl, rfl⟩ := hcs
    simp only [if_true] at hz
    have hd : d = .slice (strs (ss.take len)) (strs (ss.drop len)) := congrArg Prod.fst hx
    refine ⟨ss.take len, ⟨by rw [List.length_take]; omega, fun h0 => ?_⟩, fun s hs => ?_, by unfold maxLen at hm; omega⟩
    · obtain ⟨b, o, rfl, hb, hadd⟩ := addr_of rfl (hcell 0 (by omega))
      refine ⟨b, o, rfl, hb, fun i hi => ?_⟩
      have hi1 : i < len := by rw [List.length_take] at hi; omega
      have hi' : i < ss.length := by omega
      have := hcell i hi'
      rw [hadd] at this
      rw [this, List.getElem_take]
      simp [List.getD, hi']
    · have hmem : (DataW.lit (H := H) (.string s.data.toList)) ∈ strs (H := H) (ss.take len) := by
        unfold strs
        exact List.mem_map.2 ⟨_, hs, rfl⟩
      have h1 : Rows.uptoBulk (DataW.lit (H := H) (.string s.data.toList)) ≤ Rows.uptoBulkAll (strs (H := H) (ss.take len)) := by
        generalize strs (H := H) (ss.take len) = L at hmem
        induction L with
        | nil => cases hmem
        | cons y t ih =>
          simp only [Rows.uptoBulkAll]
          rcases List.mem_cons.1 hmem with rfl | hm
          · omega
          · have := ih hm; omega
      have h2 := slice_elems (strs (H := H) (ss.take len)) (strs (H := H) (ss.drop len))
      rw [string_bulk] at h1
      rw [hd]
      omega
end Go.Proofs.Ytdcofdndkpmpaaa.frame

/-
  DfaMeets: the walk.
-/
namespace Go.Proofs.Ytdcofdndkpmpaaa
open Go.RowKit
theorem LeastP_ok (F : Nat → Prop) (w : World) (u : Value) (d : List Au.St) (hf : Au.Fits d) (hu : StS F w u d) :
    Calls Try.prog 21 #[u] w fun e w' => ∃ v, e = .returned (.tuple #[v, .int .i64 0]) ∧ StS (fun g => w.heap.size ≤ g) w' v (Au.least d) ∧ Below w.heap.size w w' :=
  (LeastP_any F w u d hu).mono fun e w' ⟨v, hb, h⟩ => by
    rcases h with ⟨_, h1, h2⟩ | ⟨h1, _⟩
    · exact ⟨v, h1, h2, hb⟩
    · exact absurd hf h1
theorem checkP_ok (F : Nat → Prop) (w : World) (u : Value) (d : List Au.St) (hf : Au.Fits d) (hu : StS F w u d) :
    Calls Try.prog 9 #[u] w fun e w' => e = .returned (.int .i64 0) ∧ Below w.heap.size w w' := by
  have := checkP_any F w u d hu
  rw [(Au.check_iff d).2 hf] at this
  exact this
theorem acceptsP_ok (F : Nat → Prop) (w : World) (u : Value) (d : List Au.St) (s : ByteArray) (hs : s.size ≤ 9223372036854775806) (hf : Au.Fits d) (hu : StS F w u d) :
    Calls Try.prog 11 #[u, .string s] w fun e w' => e = .returned (.bool ((Au.ofL d).acc (some 0) (s.data.toList.map UInt8.toNat))) ∧ Below w.heap.size w w' := by
  have := acceptsP_any F w u d s hs hu
  rw [Au.takesL_of hf] at this
  exact this
theorem bothP_ok (F G : Nat → Prop) (w : World) (u v : Value) (a b : List Au.St) (hu : StS F w u a) (hv : StS G w v b) (ha : Au.Fits a) (hb : Au.Fits b) (hs : a.length * b.length ≤ 20000) :
    Calls Try.prog 19 #[u, v, .int .i64 20000] w fun e w' => ∃ r, e = .returned (.tuple #[r, .int .i64 0]) ∧ StS (fun g => w.heap.size ≤ g) w' r (Au.least (Au.meets a b)) ∧ Below w.heap.size w w' := by
  have hp : (Au.pairs a b : Int) ≤ 20000 := by
    have := Au.pair_few ha.row hb.row ha.pos hb.pos (a.length * b.length)
    unfold Au.pairs
    omega
  obtain ⟨e1, e2⟩ := Au.both_out_few (most := 20000) ⟨(Au.check_iff a).2 ha, (Au.check_iff b).2 hb⟩ hp
  have := bothP_any F G w u v a b 20000 hu hv hs
  rw [e1, e2] at this
  exact this
theorem meets_fits {a b : List Au.St} (ha : Au.Fits a) (hb : Au.Fits b) (hs : a.length * b.length ≤ 20000) : Au.Fits (Au.meets a b) := by
  obtain ⟨r1, r2⟩ := Au.meets_rows ha hb
  have r3 := Au.meets_len a b
  have r4 := Au.pair_few ha.row hb.row ha.pos hb.pos (a.length * b.length)
  exact ⟨r1, by unfold Au.pairs at r3; omega, r2⟩

set_option maxRecDepth 100000 in
set_option maxHeartbeats 4000000 in
theorem meets_walk (w : World) (F G : Nat → Prop) (u v : Value) (a b : List Au.St) (at' : Option Addr) (len cap : Nat) (ss : List ByteArray) (hu : StS F w u a) (hv : StS G w v b) (ht : TxtS w at' len ss) (hs : ∀ s ∈ ss, s.size ≤ 9223372036854775806) (hlen : len ≤ 9223372036854775807) :
    Calls Try.prog 7 #[u, v, .slice at' len cap] w fun e w' => e = .returned (.bool true) ∧ Below w.heap.size w w' := by
  have HU : Hid (∀ W, Below w.heap.size w W → StS F W u a) := fun W hb => hu.below hb
  have HV : Hid (∀ W, Below w.heap.size w W → StS G W v b) := fun W hb => hv.below hb
  have HSS := Lib.hid hs
  have HTX := Lib.hid ht
  obtain ⟨aa, ca, rfl, hjunk⟩ := hu
  obtain ⟨ab, cb, rfl, hjunk2⟩ := hv
  obtain ⟨la, hla⟩ : ∃ la, a.length = la := ⟨_, rfl⟩
  obtain ⟨lb, hlb⟩ : ∃ lb, b.length = lb := ⟨_, rfl⟩
  rw [hla] at HU ⊢
  rw [hlb] at HV ⊢
  have HLA := Lib.hid hla
  have HLB := Lib.hid hlb
  have HCA : Hid (∀ W, Below w.heap.size w W → _) := fun W hb => checkP_any F W _ a (HU.out W hb)
  have HCB : Hid (∀ W, Below w.heap.size w W → _) := fun W hb => checkP_any G W _ b (HV.out W hb)
  clear hjunk hjunk2 hla hlb hs ht
  go_enter Try.func7, Try.ntmps7
  go_wp2_with fail
  refine (awake_any w).mono ?_
  rintro e w1 ⟨rfl, hb⟩
  have HB1 := Lib.hid hb
  clear hb
  go_wp2_with fail
  refine (few_any w1 (la : Int)).mono ?_
  rintro e w2 ⟨rfl, hb⟩
  have HB2 : Hid (Below w.heap.size w w2) := chain HB1.out hb
  clear hb
  by_cases ha30 : (la : Int) ≤ 30
  rotate_left
  · rw [decide_eq_false ha30]
    clear HCA HCB
    go_wp2_with fail
    refine (awake_any w2).mono ?_
    rintro e wz ⟨rfl, hb⟩
    have HBz : Hid (Below w.heap.size w wz) := chain HB2.out hb
    clear hb
    go_wp2_with fail
    go_ret
    exact ⟨rfl, HBz.out⟩
  rw [decide_eq_true ha30]
  go_wp2_with fail
  refine (few_any w2 (lb : Int)).mono ?_
  rintro e w3 ⟨rfl, hb⟩
  have HB3 : Hid (Below w.heap.size w w3) := chain HB2.out hb
  clear hb
  by_cases hb30 : (lb : Int) ≤ 30
  rotate_left
  · rw [decide_eq_false hb30]
    clear HCA HCB
    go_wp2_with fail
    refine (awake_any w3).mono ?_
    rintro e wz ⟨rfl, hb⟩
    have HBz : Hid (Below w.heap.size w wz) := chain HB3.out hb
    clear hb
    go_wp2_with fail
    go_ret
    exact ⟨rfl, HBz.out⟩
  rw [decide_eq_true hb30]
  have H3 := Lib.hid (HCA.out w3 HB3.out)
  clear HCA
  go_wp2_with fail
  refine H3.out.mono ?_
  rintro e w4 ⟨rfl, hb⟩
  have HB4 : Hid (Below w.heap.size w w4) := chain HB3.out hb
  clear hb H3
  by_cases hca : Au.check a = 0
  rotate_left
  · have hcb2 : (Au.check a == 0) = false := by simpa using hca
    generalize Au.check a = ck at *
    clear HCB
    go_wp2_with fail
    refine (awake_any w4).mono ?_
    rintro e wz ⟨rfl, hb⟩
    have HBz : Hid (Below w.heap.size w wz) := chain HB4.out hb
    clear hb
    go_wp2_with fail
    go_ret
    exact ⟨rfl, HBz.out⟩
  rw [hca]
  have hfa := (Au.check_iff a).1 hca
  have H4 := Lib.hid (HCB.out w4 HB4.out)
  clear HCB hca
  go_wp2_with fail
  refine H4.out.mono ?_
  rintro e w5 ⟨rfl, hb⟩
  have HB5 : Hid (Below w.heap.size w w5) := chain HB4.out hb
  clear hb H4
  by_cases hcb : Au.check b = 0
  rotate_left
  · have hcb2 : (Au.check b == 0) = false := by simpa using hcb
    generalize Au.check b = ck at *
    clear hfa
    go_wp2_with fail
    refine (awake_any w5).mono ?_
    rintro e wz ⟨rfl, hb⟩
    have HBz : Hid (Below w.heap.size w wz) := chain HB5.out hb
    clear hb
    go_wp2_with fail
    go_ret
    exact ⟨rfl, HBz.out⟩
  rw [hcb]
  have hfb := (Au.check_iff b).1 hcb
  have hab : a.length * b.length ≤ 20000 := by
    have h1 : a.length * b.length ≤ 30 * 30 := Nat.mul_le_mul (by rw [HLA.out]; omega) (by rw [HLB.out]; omega)
    omega
  have haa : a.length * a.length ≤ 20000 := by
    have h1 : a.length * a.length ≤ 30 * 30 := Nat.mul_le_mul (by rw [HLA.out]; omega) (by rw [HLA.out]; omega)
    omega
  have HX : Hid (Au.Fits (Au.least (Au.meets a b))) := Au.least_fits (meets_fits hfa hfb hab)
  have HL : Hid (Au.Fits (Au.least a)) := Au.least_fits hfa
  have HLL : Hid (Au.least (Au.least a) = Au.least a) := Au.least_least hfa
  have HSF : Hid (Au.least (Au.meets a a) = Au.least a) := Au.both_self hfa
  have HLE : Hid ((Au.least a).length ≤ la) := by rw [← HLA.out]; exact Au.least_le a
  have HXA : Hid (∀ t, (Au.ofL (Au.least (Au.meets a b))).acc (some 0) t = ((Au.ofL a).acc (some 0) t && (Au.ofL b).acc (some 0) t)) := fun t => Au.both_takes hfa hfb t
  have HLAc : Hid (∀ t, (Au.ofL (Au.least a)).acc (some 0) t = (Au.ofL a).acc (some 0) t) := fun t => Au.least_eqv hfa.pos hfa.row t
  have HAA : Hid (∀ W s, Below w.heap.size w W → s ∈ ss → _) := fun W s hb hin => acceptsP_ok F W _ a s (HSS.out s hin) hfa (HU.out W hb)
  have HAB : Hid (∀ W s, Below w.heap.size w W → s ∈ ss → _) := fun W s hb hin => acceptsP_ok G W _ b s (HSS.out s hin) hfb (HV.out W hb)
  have H5 := Lib.hid (bothP_ok F G w5 _ _ a b (HU.out w5 HB5.out) (HV.out w5 HB5.out) hfa hfb hab)
  have H6 : Hid (∀ W, Below w.heap.size w W → _) := fun W hb => LeastP_ok F W _ a hfa (HU.out W hb)
  have H7 : Hid (∀ W, Below w.heap.size w W → _) := fun W hb => bothP_ok F F W _ _ a a (HU.out W hb) (HU.out W hb) hfa hfa haa
  clear hcb hfa hfb hab haa HU HV
  go_wp2_with fail
  refine H5.out.mono ?_
  rintro e w6 ⟨x, rfl, hx, hb⟩
  have HB6 : Hid (Below w.heap.size w w6) := chain HB5.out hb
  have HXS : Hid (∀ W, Below w6.heap.size w6 W → StS (fun _ => True) W x (Au.least (Au.meets a b))) := fun W hb => (hx.below hb).wide fun _ _ _ => trivial
  obtain ⟨ax, cx, rfl, hjunk⟩ := hx
  have G6 := Lib.hid (H6.out w6 HB6.out)
  clear hjunk hb H5 H6
  go_wp2_with fail
  refine G6.out.mono ?_
  rintro e w7 ⟨l, rfl, hl, hb⟩
  have HB67 : Hid (Below w6.heap.size w6 w7) := hb
  have HB7 : Hid (Below w.heap.size w w7) := chain HB6.out hb
  have HLS : Hid (∀ W, Below w7.heap.size w7 W → StS (fun _ => True) W l (Au.least a)) := fun W hb => (hl.below hb).wide fun _ _ _ => trivial
  have G7 := Lib.hid (LeastP_ok _ w7 l (Au.least a) HL.out hl)
  rw [HLL.out] at G7
  obtain ⟨al, cl, rfl, hjunk⟩ := hl
  clear hjunk hb G6
  go_wp2_with fail
  refine G7.out.mono ?_
  rintro e w8 ⟨m, rfl, hm, hb⟩
  have HB78 : Hid (Below w7.heap.size w7 w8) := hb
  have HB8 : Hid (Below w.heap.size w w8) := chain HB7.out hb
  have HMS : Hid (∀ W, Below w8.heap.size w8 W → StS (fun _ => True) W m (Au.least a)) := fun W hb => (hm.below hb).wide fun _ _ _ => trivial
  obtain ⟨am, cm, rfl, hjunk⟩ := hm
  have G8 := Lib.hid (H7.out w8 HB8.out)
  rw [HSF.out] at G8
  clear hjunk hb G7 H7
  go_wp2_with fail
  refine G8.out.mono ?_
  rintro e w9 ⟨s9, rfl, hs9, hb⟩
  have HB89 : Hid (Below w8.heap.size w8 w9) := hb
  have HB79 : Hid (Below w7.heap.size w7 w9) := chain HB78.out hb
  have HB9 : Hid (Below w.heap.size w w9) := chain HB8.out hb
  have HSS9 : Hid (∀ W, Below w9.heap.size w9 W → StS (fun _ => True) W s9 (Au.least a)) := fun W hb => (hs9.below hb).wide fun _ _ _ => trivial
  obtain ⟨as9, cs9, rfl, hjunk⟩ := hs9
  have hle : ((Au.least a).length : Int) ≤ (la : Int) := by have := HLE.out; omega
  have hle2 : ¬ (la : Int) < ((Au.least a).length : Int) := by omega
  have hdl : decide ((la : Int) < ((Au.least a).length : Int)) = false := decide_eq_false hle2
  have hdl2 : decide (la < (Au.least a).length) = false := decide_eq_false (by have := HLE.out; omega)
  have G9 := same_any (fun _ => True) (fun _ => True) w9 _ _ (Au.least a) (Au.least a) (HLS.out w9 HB79.out) (HMS.out w9 HB89.out)
  rw [decide_eq_true rfl] at G9
  have G9 := Lib.hid G9
  clear hjunk hb G8
  go_wp2_with fail
  refine G9.out.mono ?_
  rintro e w10 ⟨rfl, hb⟩
  have HB910 : Hid (Below w9.heap.size w9 w10) := hb
  have HB710 : Hid (Below w7.heap.size w7 w10) := chain HB79.out hb
  have G10 := same_any (fun _ => True) (fun _ => True) w10 _ _ (Au.least a) (Au.least a) (HSS9.out w10 HB910.out) (HLS.out w10 HB710.out)
  rw [decide_eq_true rfl] at G10
  have G10 := Lib.hid G10
  have HB10 : Hid (Below w.heap.size w w10) := chain HB9.out hb
  clear hb G9
  go_wp2_with fail
  refine G10.out.mono ?_
  rintro e w11 ⟨rfl, hb⟩
  have HB711 : Hid (Below w7.heap.size w7 w11) := chain HB710.out hb
  have HB611 : Hid (Below w6.heap.size w6 w11) := chain HB67.out HB711.out
  have HB11 : Hid (Below w.heap.size w w11) := chain HB10.out hb
  have G11 := Lib.hid (checkP_ok _ w11 _ _ HX.out (HXS.out w11 HB611.out))
  clear hb G10
  go_wp2_with fail
  refine G11.out.mono ?_
  rintro e w12 ⟨rfl, hb⟩
  have HB712 : Hid (Below w7.heap.size w7 w12) := chain HB711.out hb
  have HB612 : Hid (Below w6.heap.size w6 w12) := chain HB611.out hb
  have HB12 : Hid (Below w.heap.size w w12) := chain HB11.out hb
  have G12 := Lib.hid (checkP_ok _ w12 _ _ HL.out (HLS.out w12 HB712.out))
  clear hb G11
  go_wp2_with fail
  refine G12.out.mono ?_
  rintro e w13 ⟨rfl, hb⟩
  have HB713 : Hid (Below w7.heap.size w7 w13) := chain HB712.out hb
  have HB613 : Hid (Below w6.heap.size w6 w13) := chain HB612.out hb
  have HB13 : Hid (Below w.heap.size w w13) := chain HB12.out hb
  have HN13 : Hid (Below w13.heap.size w13 w13) := Below.refl _ _
  clear hb G12 HB1 HB2 HB3 HB4 HB5 HB6 HB7 HB8 HB9 HB10 HB11 HB12 HB67 HB78 HB89 HB79 HB910 HB710 HB711 HB712 HB611 HB612 HMS HSS9
  go_wp2_with fail
  go_loopg [15] len (fun gg s15 wx => ∃ (i : Nat), i ≤ len ∧ gg = len - i ∧ s15 = .int .i64 i ∧ Hid (Below w13.heap.size w13 wx))
  case atStart => exact ⟨0, Nat.zero_le _, rfl, rfl, HN13⟩
  case round =>
    clear HN13
    obtain ⟨i, hi, rfl, rfl, hB⟩ := hrel
    have hBw : Hid (Below w.heap.size w wr) := chain HB13.out hB.out
    by_cases hil : i < len
    · have j1 : (i : Int) < (len : Int) := by omega
      by_cases hi20 : (i : Int) < 20
      · have hiS : i < ss.length := by rw [HTX.out.1]; exact hil
        obtain ⟨bt, ot, rfl, lbt, hcl⟩ := HTX.out.2 (by omega)
        have hS : Hid (∀ W, Below wr.heap.size wr W → W.cell? ⟨bt, ot + i, none⟩ = some (.string ss[i])) := fun W hb => (cell_same (a := ⟨bt, ot + i, none⟩) ((chain hBw.out hb).block bt lbt)).trans (hcl i hiS)
        have HA1 : Hid (∀ W, Below wr.heap.size wr W → _) := fun W hb => HAA.out W ss[i] (chain hBw.out hb) (List.getElem_mem hiS)
        have HA2 : Hid (∀ W, Below wr.heap.size wr W → _) := fun W hb => HAB.out W ss[i] (chain hBw.out hb) (List.getElem_mem hiS)
        have HA3 : Hid (∀ W, Below wr.heap.size wr W → _) := fun W hb => acceptsP_ok (fun _ => True) W (.slice ax (Au.least (Au.meets a b)).length cx) _ ss[i] (HSS.out _ (List.getElem_mem hiS)) HX.out (HXS.out W (chain HB613.out (chain hB.out hb)))
        have HA4 : Hid (∀ W, Below wr.heap.size wr W → _) := fun W hb => acceptsP_ok (fun _ => True) W (.slice al (Au.least a).length cl) _ ss[i] (HSS.out _ (List.getElem_mem hiS)) HL.out (HLS.out W (chain HB713.out (chain hB.out hb)))
        rw [HXA.out] at HA3
        rw [HLAc.out] at HA4
        have c0 := hS.out wr (Below.refl _ _)
        generalize ss[i] = s at *
        generalize (Au.ofL a).acc (some 0) (s.data.toList.map UInt8.toNat) = pa at *
        generalize (Au.ofL b).acc (some 0) (s.data.toList.map UInt8.toNat) = pb at *
        clear hcl
        go_upto_region 12 with (fail)
        go_cut [16, 17] (fun s16 s17 wx => s16 = .bool pa ∧ s17 = .bool pb ∧ Hid (Below wr.heap.size wr wx))
        case first =>
          have HQ : Hid (Below wr.heap.size wr wr.drew) := (Below.refl _ _).drew
          go_region_held3 (fun W => W.cell? ⟨bt, ot + i, none⟩ = some (.string s) ∧ Below wr.heap.size wr W) (first | exact ⟨hS.out _ (Below.refl _ _).drew, (Below.refl _ _).drew⟩ | exact ⟨hS.out _ hbx, hbx⟩ | exact ⟨hS.out _ hby, hby⟩) (first | (go_at_call_of 11 aa; refine (HA1.out _ (by assumption)).mono ?_; rintro e wx ⟨rfl, hbx0⟩; have hbx := chain (by assumption) hbx0) | (go_at_call_of 11 ab; refine (HA2.out _ (by assumption)).mono ?_; rintro e wy ⟨rfl, hby0⟩; have hby := chain (by assumption) hby0))
          all_goals
            go_wp2_with fail
            go_meet
            exact ⟨rfl, rfl, by first | exact hby | exact hbx⟩
        case rest =>
          obtain ⟨rfl, rfl, hbc⟩ := hcut
          have c1 := hS.out _ hbc.out
          have A3 := Lib.hid (HA3.out _ hbc.out)
          have HN : Hid (∀ W, Below wc.heap.size wc W → Below w13.heap.size w13 W) := fun W hb => chain hB.out (chain hbc.out hb)
          have HC1 : Hid (∀ W, Below wc.heap.size wc W → W.cell? ⟨bt, ot + i, none⟩ = some (.string s) ∧ Below wr.heap.size wr W) := fun W hb => ⟨hS.out W (chain hbc.out hb), chain hbc.out hb⟩
          clear HA1 HA2 HA3 hbc hS
          go_wp2_with fail
          refine A3.out.mono ?_
          rintro e wd ⟨rfl, hb⟩
          obtain ⟨c2, hb2⟩ := HC1.out wd hb
          have A4 := Lib.hid (HA4.out wd hb2)
          have HBd := Lib.hid hb
          clear hb hb2 HA4 A3 HC1
          cases pa with
          | false =>
            cases pb
            all_goals
              go_wp2_with fail
              refine A4.out.mono ?_
              rintro e we ⟨rfl, hb⟩
              have HN2 := Lib.hid (HN.out we (chain HBd.out hb))
              clear hb
              go_wp2_with fail
              go_roundg (len - (i + 1))
              case rel => exact ⟨i + 1, by omega, rfl, by go_num, HN2⟩
              case measure => omega
          | true =>
            cases pb
            all_goals
              go_wp2_with fail
              refine A4.out.mono ?_
              rintro e we ⟨rfl, hb⟩
              have HN2 := Lib.hid (HN.out we (chain HBd.out hb))
              clear hb
              go_wp2_with fail
              go_roundg (len - (i + 1))
              case rel => exact ⟨i + 1, by omega, rfl, by go_num, HN2⟩
              case measure => omega
      · clear HAA HAB
        go_wp2_with fail
        go_ret
        exact ⟨rfl, hBw.out⟩
    · clear HAA HAB
      go_wp2_with fail
      go_ret
      exact ⟨rfl, hBw.out⟩
end Go.Proofs.Ytdcofdndkpmpaaa
