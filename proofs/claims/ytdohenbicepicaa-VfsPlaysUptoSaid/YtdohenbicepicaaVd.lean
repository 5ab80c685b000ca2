/-
  The given disk in memory, and what its small calls do.
-/
import Derived.Test.YtdohenbicepicaaVl
namespace Go.Proofs.Ytdohenbicepicaa
open Go.RowKit

theorem Try.infoF : (Try.prog.info? 86).map (fun i => (i.zero, i.size, i.bytes)) = some (some (.agg #[.int .i64 0, .string ByteArray.empty, .int .i64 0]), 3, 32) := by kernel_rfl
/-- The slice v is the call's own, from block B on, and holds these files. -/
def OwnF (w : World) (B : Nat) (v : Value) (l : List Vf.Fl) : Prop := w.ownsRow B 86 3 v l.length (flsV l)
theorem OwnF.cellsAt {w : World} {B : Nat} {v : Value} {l : List Vf.Fl} (h : OwnF w B v l) : ∃ a cap, v = .slice a l.length cap ∧ l.length ≤ cap ∧ cap ≤ 9223372036854775807 ∧ (0 < l.length → ∃ g, a = some ⟨g, 0, none⟩ ∧ v.ownBlock = some g ∧ g < w.heap.size ∧ (∀ j, w.frozen? ⟨g, j, none⟩ = false) ∧ ∀ i (_ : i < l.length), w.cell? ⟨g, i * 3, none⟩ = some (.int .i64 (l[i].n : Int)) ∧ w.cell? ⟨g, i * 3 + 1, none⟩ = some (.string l[i].data) ∧ w.cell? ⟨g, i * 3 + 2, none⟩ = some (.int .i64 (l[i].sure : Int))) := by
  rcases h.2 with ⟨rfl, h0⟩ | ⟨g, cap, cur, rfl, hg, hh, hnc, hcp, hcs, htake⟩
  · exact ⟨none, 0, by rw [h0], by omega, by omega, fun h => by omega⟩
  · have hown : w.ownsRow B 86 3 (.slice (some ⟨g, 0, none⟩) l.length cap) l.length (flsV l) := h
    refine ⟨_, cap, rfl, hnc, by unfold maxLen at hcp; omega, fun _ => ⟨g, rfl, rfl, (hown.lt g rfl).2, fun j => by simp [World.frozen?, hh], fun i hi => ?_⟩⟩
    have e : ∀ j u, (flsV l)[j]? = some u → w.cell? ⟨g, j, none⟩ = some u := fun j u hj => by
      have h := hown.cells (g := g) rfl j u hj
      rw [Addr.add_lit, Nat.zero_add] at h
      exact h
    obtain ⟨h1, h2, h3⟩ := flsV_at l i hi
    exact ⟨e _ _ h1, e _ _ h2, e _ _ h3⟩
theorem OwnF.fls {w : World} {B : Nat} {v : Value} {l : List Vf.Fl} (h : OwnF w B v l) : FlS w v l := by
  obtain ⟨a, cap, h1, h2, h3, h4⟩ := h.cellsAt
  refine ⟨a, cap, h1, h2, h3, fun h0 => ?_⟩
  obtain ⟨g, h5, _, h6, _, h7⟩ := h4 h0
  exact ⟨g, h5, h6, h7⟩

theorem heap_other (w : World) (b i k : Nat) (v : Value) (h : k ≠ b) : (w.setCell ⟨b, i, none⟩ v).heap[k]? = w.heap[k]? :=
  Below.heap_setCell _ _ _ _ (by first | exact h | exact fun e => h e.symm | exact fun e => h e)
/-- Nothing but what F says has turned of what lay there. -/
structure KeptF (F : Nat → Prop) (w w' : World) : Prop where
  os : w'.os = w.os
  tape : w'.tape = w.tape
  output : w'.output = w.output
  size : w.heap.size ≤ w'.heap.size
  block : ∀ k, k < w.heap.size → ¬ F k → w'.heap[k]? = w.heap[k]?
theorem KeptF.refl (F : Nat → Prop) (w : World) : KeptF F w w := ⟨rfl, rfl, rfl, Nat.le_refl _, fun _ _ _ => rfl⟩
theorem KeptF.trans {F : Nat → Prop} {w w' w'' : World} (h : KeptF F w w') (k : KeptF F w' w'') : KeptF F w w'' :=
  ⟨k.os.trans h.os, k.tape.trans h.tape, k.output.trans h.output, Nat.le_trans h.size k.size, fun i hi hf => (k.block i (Nat.lt_of_lt_of_le hi h.size) hf).trans (h.block i hi hf)⟩
theorem KeptF.mono {F G : Nat → Prop} {w w' : World} (h : KeptF F w w') (hm : ∀ k, k < w.heap.size → F k → G k) : KeptF G w w' :=
  ⟨h.os, h.tape, h.output, h.size, fun i hi hf => h.block i hi (fun hF => hf (hm i hi hF))⟩
theorem KeptF.of_below {F : Nat → Prop} {w w' : World} (h : Below w.heap.size w w') : KeptF F w w' := ⟨h.os, h.tape, h.output, h.size, fun k hk _ => h.block k hk⟩
theorem KeptF.set {F : Nat → Prop} {w w' : World} (h : KeptF F w w') (b i : Nat) (hb : F b) (v : Value) : KeptF F w (w'.setCell ⟨b, i, none⟩ v) :=
  h.trans ⟨rfl, rfl, rfl, by simp [World.setCell], fun k _ hk => heap_other _ _ _ _ _ (fun e => hk (e ▸ hb))⟩
theorem KeptF.drew {F : Nat → Prop} {w w' : World} (h : KeptF F w w') : KeptF F w w'.drew := h.trans ⟨rfl, rfl, rfl, Nat.le_refl _, fun _ _ _ => rfl⟩
theorem KeptF.below {F : Nat → Prop} {B : Nat} {w0 w w' : World} (h : Below B w0 w) (k : KeptF F w w') (hF : ∀ k, F k → B ≤ k) (hB : B ≤ w.heap.size) : Below B w0 w' :=
  h.trans ⟨k.os, k.tape, k.output, k.size, fun i hi => k.block i (by omega) (fun hf => by have := hF i hf; omega)⟩

/-- The disk's row. -/
def RowC (w : World) (b : Nat) (cs : Array Value) : Prop := w.heap[b]? = some (.cells cs 35 (0, 0))
theorem RowC.cell {w : World} {b : Nat} {cs : Array Value} (h : RowC w b cs) (i : Nat) : w.cell? ⟨b, i, none⟩ = cs[i]? := cell_of_row w b i cs _ _ h
theorem RowC.frozen {w : World} {b : Nat} {cs : Array Value} (h : RowC w b cs) (i : Nat) : w.frozen? ⟨b, i, none⟩ = false := by
  have h' : w.heap[b]? = some (.cells cs 35 (0, 0)) := h
  simp [World.frozen?, h']
theorem RowC.lt {w : World} {b : Nat} {cs : Array Value} (h : RowC w b cs) : b < w.heap.size := (Array.getElem?_eq_some_iff.1 h).1
theorem RowC.set {w : World} {b : Nat} {cs : Array Value} (h : RowC w b cs) (i : Nat) (v : Value) : RowC (w.setCell ⟨b, i, none⟩ v) b (cs.setIfInBounds i v) := by
  unfold RowC
  rw [setCell_eq_setRow w b i cs _ _ v h]
  exact setRow_heap w b cs _ _ _ h
def dkC (vf vn vk : Value) (D : Vf.Dk) : Array Value := #[vf, vn, vk, .int .i64 (D.last : Int), .int .i64 (D.steps : Int), .int .i64 D.armed, .int .i64 D.fault, .bool D.down]
/-- The disk at block b, with its three lists. -/
structure RefA (w : World) (b : Nat) (vf vn vk : Value) (D : Vf.Dk) : Prop where
  row : RowC w b (dkC vf vn vk D)
  files : OwnF w 0 vf D.files
  names : OwnK w 0 vn D.names
  kept : OwnK w 0 vk D.kept
  fb : vf.ownBlock ≠ some b
  nb : vn.ownBlock ≠ some b
  kb : vk.ownBlock ≠ some b
  apart : ∀ k, vf.ownBlock = some k → vn.ownBlock ≠ some k ∧ vk.ownBlock ≠ some k
def Foot (b : Nat) (vf vn vk : Value) : Nat → Prop := fun k => k = b ∨ vf.ownBlock = some k ∨ vn.ownBlock = some k ∨ vk.ownBlock = some k
/-- A list that lies where nothing has turned. -/
theorem ownsRow_keep {w w' : World} {B : Nat} {t : TypeId} {z : Nat} {v : Value} {n : Nat} {xs : List Value} (h : w.ownsRow B t z v n xs) (e : ∀ k, v.ownBlock = some k → w'.heap[k]? = w.heap[k]?) : w'.ownsRow B t z v n xs := by
  refine ⟨h.1, ?_⟩
  rcases h.2 with h1 | ⟨g, cap, cur, rfl, hg, hh, hr⟩
  · exact .inl h1
  · exact .inr ⟨g, cap, cur, rfl, hg, (e g rfl).trans hh, hr⟩
theorem ownsRow_base {w : World} {B C : Nat} {t : TypeId} {z : Nat} {v : Value} {n : Nat} {xs : List Value} (h : w.ownsRow B t z v n xs) (hC : C ≤ B) : w.ownsRow C t z v n xs := by
  refine ⟨h.1, ?_⟩
  rcases h.2 with h1 | ⟨g, cap, cur, rfl, hg, hh, hr⟩
  · exact .inl h1
  · exact .inr ⟨g, cap, cur, rfl, Nat.le_trans hC hg, hh, hr⟩
theorem RefA.lt {w : World} {b : Nat} {vf vn vk : Value} {D : Vf.Dk} (h : RefA w b vf vn vk D) : ∀ k, Foot b vf vn vk k → k < w.heap.size := by
  intro k hk
  rcases hk with rfl | hk | hk | hk
  · exact h.row.lt
  · exact (World.ownsRow.lt h.files k hk).2
  · exact (World.ownsRow.lt h.names k hk).2
  · exact (World.ownsRow.lt h.kept k hk).2
theorem RefA.keep {w w' : World} {b : Nat} {vf vn vk : Value} {D : Vf.Dk} (h : RefA w b vf vn vk D) (e : ∀ k, Foot b vf vn vk k → w'.heap[k]? = w.heap[k]?) : RefA w' b vf vn vk D :=
  ⟨(e b (.inl rfl)).trans h.row, ownsRow_keep h.files fun k hk => e k (.inr (.inl hk)), ownsRow_keep h.names fun k hk => e k (.inr (.inr (.inl hk))), ownsRow_keep h.kept fun k hk => e k (.inr (.inr (.inr hk))), h.fb, h.nb, h.kb, h.apart⟩
/-- The row has turned, the lists not. -/
theorem RefA.turn {w w' : World} {b : Nat} {vf vn vk : Value} {D D' : Vf.Dk} (h : RefA w b vf vn vk D) (hr : RowC w' b (dkC vf vn vk D')) (e : ∀ k, k ≠ b → w'.heap[k]? = w.heap[k]?) (h1 : D'.files = D.files) (h2 : D'.names = D.names) (h3 : D'.kept = D.kept) : RefA w' b vf vn vk D' := by
  refine ⟨hr, ?_, ?_, ?_, h.fb, h.nb, h.kb, h.apart⟩
  · rw [h1]; exact ownsRow_keep h.files fun k hk => e k (fun e => h.fb (e ▸ hk))
  · rw [h2]; exact ownsRow_keep h.names fun k hk => e k (fun e => h.nb (e ▸ hk))
  · rw [h3]; exact ownsRow_keep h.kept fun k hk => e k (fun e => h.kb (e ▸ hk))

set_option maxHeartbeats 400000 in
theorem firstR_any (w : World) (b : Nat) (vf vn vk : Value) (D : Vf.Dk) (ok : Bool) (h : RefA w b vf vn vk D) :
    Calls Try.prog 57 #[.pointer (some ⟨b, 0, none⟩), .bool ok] w fun e' w' => e' = .returned (.int .i64 (Vf.first D ok)) ∧ w = w' := by
  have c7 := h.row.cell 7
  simp only [dkC] at c7
  have c7' : w.cell? ⟨b, 7, none⟩ = some (.bool D.down) := c7
  clear c7 h
  unfold Vf.first
  generalize D.down = dn at *
  cases ok <;> cases dn
  all_goals
    go_enter Try.func57, Try.ntmps57
    go_wp2_with fail
    go_ret
    exact ⟨rfl, rfl⟩
set_option maxHeartbeats 1000000 in
theorem doneR_any (w : World) (b : Nat) (vf vn vk : Value) (D : Vf.Dk) (h : RefA w b vf vn vk D) (hs : D.steps ≤ 4611686018427387904) (ha : -1 ≤ D.armed ∧ D.armed ≤ 9223372036854775807) :
    Calls Try.prog 58 #[.pointer (some ⟨b, 0, none⟩)] w fun e' w' => e' = .returned (.int .i64 (Vf.done D).1) ∧ RefA w' b vf vn vk (Vf.done D).2 ∧ KeptF (fun k => k = b) w w' := by
  have hrow := h.row
  have c4 : w.cell? ⟨b, 4, none⟩ = some (.int .i64 (D.steps : Int)) := hrow.cell 4
  have c5 : w.cell? ⟨b, 5, none⟩ = some (.int .i64 D.armed) := hrow.cell 5
  have c6 : w.cell? ⟨b, 6, none⟩ = some (.int .i64 D.fault) := hrow.cell 6
  have c7 : w.cell? ⟨b, 7, none⟩ = some (.bool D.down) := hrow.cell 7
  have f4 := hrow.frozen 4
  have f5 := hrow.frozen 5
  have f7 := hrow.frozen 7
  have H := Lib.hid h
  have HR := Lib.hid hrow
  clear h hrow
  by_cases h0 : D.armed = 0
  · have hd : Hid (Vf.done D = (D.fault, { D with armed := -1, down := decide (D.fault = 15) })) := by show _ = _; unfold Vf.done; rw [if_pos h0]
    have e0 : (D.armed == 0) = true := by simp [h0]
    have e15 : (D.fault == 15) = decide (D.fault = 15) := by rw [Bool.eq_iff_iff]; simp
    have HN : Hid (RefA ((w.setCell ⟨b, 5, none⟩ (.int .i64 (-1))).setCell ⟨b, 7, none⟩ (.bool (decide (D.fault = 15)))) b vf vn vk { D with armed := -1, down := decide (D.fault = 15) }) := by
      refine H.out.turn ((HR.out.set 5 _).set 7 _) (fun k hk => ?_) rfl rfl rfl
      rw [heap_other _ _ _ _ _ hk, heap_other _ _ _ _ _ hk]
    have HK : Hid (KeptF (fun k => k = b) w ((w.setCell ⟨b, 5, none⟩ (.int .i64 (-1))).setCell ⟨b, 7, none⟩ (.bool (decide (D.fault = 15))))) := ((KeptF.refl (fun k => k = b) w).set b _ rfl _).set b _ rfl _
    clear h0 ha
    generalize decide (D.fault = 15) = q at *
    generalize D.fault = fl at *
    generalize D.armed = ar at *
    go_enter Try.func58, Try.ntmps58
    go_wp2_with fail
    go_ret
    refine ⟨by rw [hd.out]; rfl, by rw [hd.out]; exact HN.out, HK.out⟩
  · have hd : Hid (Vf.done D = (0, { D with armed := if 0 < D.armed then D.armed - 1 else D.armed, steps := D.steps + 1 })) := by show _ = _; unfold Vf.done; rw [if_neg h0]
    have e0 : (D.armed == 0) = false := by simp [h0]
    by_cases hp : 0 < D.armed
    · have HN : Hid (RefA ((w.setCell ⟨b, 5, none⟩ (.int .i64 (D.armed - 1))).setCell ⟨b, 4, none⟩ (.int .i64 ((D.steps : Int) + 1))) b vf vn vk { D with armed := D.armed - 1, steps := D.steps + 1 }) := by
        refine H.out.turn ((HR.out.set 5 _).set 4 _) (fun k hk => ?_) rfl rfl rfl
        rw [heap_other _ _ _ _ _ hk, heap_other _ _ _ _ _ hk]
      have HK : Hid (KeptF (fun k => k = b) w ((w.setCell ⟨b, 5, none⟩ (.int .i64 (D.armed - 1))).setCell ⟨b, 4, none⟩ (.int .i64 ((D.steps : Int) + 1)))) := ((KeptF.refl (fun k => k = b) w).set b _ rfl _).set b _ rfl _
      rw [if_pos hp] at hd
      clear h0
      generalize D.armed = ar at *
      go_enter Try.func58, Try.ntmps58
      go_wp2_with fail
      go_ret
      refine ⟨by rw [hd.out]; rfl, by rw [hd.out]; exact HN.out, HK.out⟩
    · have HN : Hid (RefA (w.setCell ⟨b, 4, none⟩ (.int .i64 ((D.steps : Int) + 1))) b vf vn vk { D with armed := D.armed, steps := D.steps + 1 }) := by
        refine H.out.turn (HR.out.set 4 _) (fun k hk => ?_) rfl rfl rfl
        rw [heap_other _ _ _ _ _ hk]
      have HK : Hid (KeptF (fun k => k = b) w (w.setCell ⟨b, 4, none⟩ (.int .i64 ((D.steps : Int) + 1)))) := (KeptF.refl (fun k => k = b) w).set b _ rfl _
      rw [if_neg hp] at hd
      clear h0
      generalize D.armed = ar at *
      go_enter Try.func58, Try.ntmps58
      go_wp2_with fail
      go_ret
      refine ⟨by rw [hd.out]; rfl, by rw [hd.out]; exact HN.out, HK.out⟩
end Go.Proofs.Ytdohenbicepicaa
