/-
  The program's disk: what the closures do.
-/
import Derived.Test.YtdohenbicepicaaWf
import Derived.Test.YtdohenbicepicaaShelf
import Derived.Shelf.SlMaps.Clone
namespace Go.Proofs.Ytdohenbicepicaa
open Go.RowKit Go.Maps

/-- A block that a map's store has left. -/
theorem grown_other {w w' : World} {b : Nat} (h : w.grownBy w' (some b)) (k : Nat) (hk : k < w.heap.size) (hb : k ≠ b) : w'.heap[k]? = w.heap[k]? := h.block k hk (fun e => hb (by simpa using e))
theorem fnew_foot {w w2 : World} {p mn ms : Nat} {φ φ' : Nat → Nat} {ρ ρ' : Nat → Value} {D D' : Vf.Dk} {F : Nat → Prop} (hF : ∀ k, PFoot p mn ms φ ρ D k → F k) (h2 : PrA w2 p mn ms φ' ρ' D')
    (hl : ∀ m, Vf.Live D' m → w.heap.size ≤ φ' m ∨ (Vf.Live D m ∧ φ' m = φ m)) (hr : ∀ m k, Vf.Live D' m → (ρ' m).ownBlock = some k → w.heap.size ≤ k ∨ (Vf.Live D m ∧ (ρ m).ownBlock = some k)) : ∀ k, PFoot p mn ms φ' ρ' D' k → FNew F w w2 k := by
  intro k hk
  have hlt := h2.lt k hk
  rcases hk with rfl | rfl | rfl | ⟨m, hm, rfl | hk⟩
  · exact .inl (hF _ (.inl rfl))
  · exact .inl (hF _ (.inr (.inl rfl)))
  · exact .inl (hF _ (.inr (.inr (.inl rfl))))
  · rcases hl m hm with h | ⟨h, e⟩
    · exact .inr ⟨h, hlt⟩
    · exact .inl (hF _ (.inr (.inr (.inr ⟨m, h, .inl e⟩))))
  · rcases hr m k hm hk with h | ⟨h, e⟩
    · exact .inr ⟨h, hlt⟩
    · exact .inl (hF _ (.inr (.inr (.inr ⟨m, h, .inr e⟩))))
theorem fnew_lt {w w2 : World} {F : Nat → Prop} (hl : ∀ k, F k → k < w.heap.size) (hs : w.heap.size ≤ w2.heap.size) : ∀ k, FNew F w w2 k → k < w2.heap.size := by
  intro k hk
  rcases hk with hk | ⟨_, hk⟩
  · exact Nat.lt_of_lt_of_le (hl k hk) hs
  · exact hk

set_option maxRecDepth 100000 in
set_option maxHeartbeats 2000000 in
theorem create1_any (w : World) (p mn ms : Nat) (φ : Nat → Nat) (ρ : Nat → Value) (D : Vf.Dk) (F : Nat → Prop) (a b : Addr) (s : ByteArray) (hA : PrA w p mn ms φ ρ D) (hF : ∀ k, PFoot p mn ms φ ρ D k → F k) (hl : ∀ k, F k → k < w.heap.size)
    (ha : w.cell? a = some (.pointer (some ⟨p, 0, none⟩))) (hb : w.cell? b = some (.string s)) (hs : s.size ≤ 40) (hlast : ∀ m, Vf.Live D m → m ≤ D.last ∧ Vf.place D.files m < D.files.length) (hfl : ∀ f ∈ D.files, f.n ≤ D.last) (hn : D.names.length ≤ 1073741824) :
    Calls Try.prog 43 #[.pointer (some a), .pointer (some b)] w (ClPost w p F (Vf.put D (D.files ++ [⟨D.last + 1, ByteArray.empty, 0⟩]) (Vf.link D.names s (D.last + 1)) D.kept (D.last + 1))) := by
  have d0 : w.cell? ⟨p, 0, none⟩ = some (.map (some mn)) := hA.row.cell 0
  have hM : MapA (w.drew.alloc (.cells #[.slice none 0 0, .int .i64 0] 73)) mn D.names.length (Vf.leads φ D.names) := hA.now.keep (heap_alloc_old w.drew _ hA.now.lt)
  have hsm : s.size ≤ maxLen := by unfold maxLen; omega
  have hnm : D.names.length < maxLen := by unfold maxLen; omega
  obtain ⟨Dm, hown, hsays⟩ := hM
  obtain ⟨w2, hrun, hown2, hgr⟩ := hown.update lawS Try.underlying55 hnm (keyS_of hsm) (ptrElem_mk w.heap.size)
  have hrun' : (Instr.mapUpdate 55 (.map (some mn)) (.string s) (.pointer (some ⟨w.heap.size, 0, none⟩))).run Try.prog ((w.alloc (.cells #[.slice none 0 0, .int .i64 0] 73)).drew) = .ok () w2 := hrun
  have ha' := Lib.cell?_alloc_some (W := w) (.cells #[.slice none 0 0, .int .i64 0] 73) ha
  have hb' := Lib.cell?_alloc_some (W := w) (.cells #[.slice none 0 0, .int .i64 0] 73) hb
  have d0' := Lib.cell?_alloc_some (W := w) (.cells #[.slice none 0 0, .int .i64 0] 73) d0
  have HM : Hid (MapA w2 mn (D.names.length + 1) (updF (Vf.leads φ D.names) s (some w.heap.size))) := ⟨_, hown2, says_put hsays hown.isMap s _⟩
  have HG := Lib.hid hgr
  have H := Lib.hid hA
  have HF := Lib.hid hF
  have HL := Lib.hid hl
  have HLA := Lib.hid hlast
  have HFL := Lib.hid hfl
  clear hA hown hown2 hgr hsays hF hl hlast hfl hn hnm hsm
  go_enter Try.func43, Try.ntmps43
  go_region
  all_goals
    go_wp2_with fail
    go_end0
    have hg2 : ∀ k, k ≠ mn → k < w.heap.size → w2.heap[k]? = w.heap[k]? := fun k h1 h2 => (grown_other HG.out k (by simp; omega) h1).trans (heap_alloc_old w.drew _ h2)
    have hsz : w.heap.size < w2.heap.size := by have := HG.out.size; simp at this; omega
    have hrow : RowT 73 w2 w.heap.size #[.slice none 0 0, .int .i64 0] := (grown_other HG.out _ (by simp) (by have := H.out.now.lt; omega)).trans (heap_alloc_new w.drew _)
    have hP := H.out.create s HLA.out HFL.out w.heap.size (Nat.le_refl _) hrow HM.out hg2
    refine ⟨rfl, ⟨mn, ms, _, _, hP.1, fnew_foot HF.out hP.1 (fun m hm => ?_) (fun m k hm hk => ?_), fnew_lt HL.out (Nat.le_of_lt hsz)⟩, HG.out.os, HG.out.tape, HG.out.output, Nat.le_of_lt hsz, fun k hk hf => hg2 k (fun e => hf (HF.out k (.inr (.inl e)))) hk⟩
    · rcases hP.2 m hm with rfl | h
      · rw [if_pos rfl]; exact .inl (Nat.le_refl _)
      · have := (HLA.out m h).1
        rw [if_neg (by omega)]; exact .inr ⟨h, rfl⟩
    · rcases hP.2 m hm with rfl | h
      · rw [if_pos rfl] at hk; cases hk
      · have := (HLA.out m h).1
        rw [if_neg (by omega)] at hk; exact .inr ⟨h, hk⟩

theorem ownsRow_drew {w : World} {B : Nat} {t : TypeId} {z : Nat} {v : Value} {n : Nat} {xs : List Value} (h : w.ownsRow B t z v n xs) : w.drew.ownsRow B t z v n xs := h
/-- Names have turned: what the closure leaves. -/
theorem names_post {w w2 : World} {p mn ms : Nat} {φ : Nat → Nat} {ρ : Nat → Value} {D : Vf.Dk} {F : Nat → Prop} (h : PrA w p mn ms φ ρ D) (hF : ∀ k, PFoot p mn ms φ ρ D k → F k) (hl : ∀ k, F k → k < w.heap.size) (l : List Vf.Lk) (hsub : ∀ x ∈ l, Vf.Live D x.n) (n : Nat) (hmap : MapA w2 mn n (Vf.leads φ l)) (hg : w.drew.grownBy w2 (some mn)) :
    ClPost w p F (Vf.put D D.files l D.kept D.last) (.returned (.tuple #[])) w2 := by
  have hg2 : ∀ k, k ≠ mn → k < w.heap.size → w2.heap[k]? = w.heap[k]? := fun k h1 h2 => grown_other hg k h2 h1
  have hsz : w.heap.size ≤ w2.heap.size := hg.size
  have hP := h.names l hsub n hmap hg2
  exact ⟨rfl, ⟨mn, ms, φ, ρ, hP.1, fnew_foot hF hP.1 (fun m hm => .inr ⟨hP.2 m hm, rfl⟩) (fun m k hm hk => .inr ⟨hP.2 m hm, hk⟩), fnew_lt hl hsz⟩, hg.os, hg.tape, hg.output, hsz, fun k hk hf => hg2 k (fun e => hf (hF k (.inr (.inl e)))) hk⟩

set_option maxRecDepth 100000 in
set_option maxHeartbeats 2000000 in
theorem remove1_any (w : World) (p mn ms : Nat) (φ : Nat → Nat) (ρ : Nat → Value) (D : Vf.Dk) (F : Nat → Prop) (fp : Value) (a b : Addr) (s : ByteArray) (hA : PrA w p mn ms φ ρ D) (hF : ∀ k, PFoot p mn ms φ ρ D k → F k) (hl : ∀ k, F k → k < w.heap.size)
    (ha : w.cell? a = some (.pointer (some ⟨p, 0, none⟩))) (hb : w.cell? b = some (.string s)) (hs : s.size ≤ 40) :
    Calls Try.prog 56 #[fp, .pointer (some a), .pointer (some b)] w (ClPost w p F (Vf.put D D.files (Vf.link D.names s 0) D.kept D.last)) := by
  have d0 : w.cell? ⟨p, 0, none⟩ = some (.map (some mn)) := hA.row.cell 0
  have hM : Hid (MapA w.drew mn D.names.length (Vf.leads φ D.names)) := hA.now
  have hsm : s.size ≤ maxLen := by unfold maxLen; omega
  have H := Lib.hid hA
  have HF := Lib.hid hF
  have HL := Lib.hid hl
  clear hA hF hl
  go_enter Try.func56, Try.ntmps56
  go_still_tail 5, (by kernel_rfl)
  change wpList _ _ _ _ _ w.drew
  go_wp2_with (at_delete; refine wpList_drop _ rfl _ _ rfl mn _ _ rfl hM.out s rfl hsm ?_; intro w2 hM2 hg2; have HM2 := Lib.hid (And.intro hM2 hg2); clear hM2 hg2; go_frame)
  go_end0
  refine names_post H.out HF.out HL.out _ (fun x hx => ?_) _ (HM2.out.1.congr fun t => ?_) HM2.out.2
  · rcases Vf.mem_link hx with h | h
    · exact absurd rfl h.1
    · exact ⟨x, .inl h.1, rfl⟩
  · rw [leads_link, if_pos rfl]

set_option maxRecDepth 100000 in
set_option maxHeartbeats 2000000 in
theorem rename1_any (w : World) (p mn ms : Nat) (φ : Nat → Nat) (ρ : Nat → Value) (D : Vf.Dk) (F : Nat → Prop) (a b c : Addr) (s t : ByteArray) (hA : PrA w p mn ms φ ρ D) (hF : ∀ k, PFoot p mn ms φ ρ D k → F k) (hl : ∀ k, F k → k < w.heap.size)
    (ha : w.cell? a = some (.pointer (some ⟨p, 0, none⟩))) (hb : w.cell? b = some (.string s)) (hc : w.cell? c = some (.string t)) (hab : a.block < w.heap.size ∧ a.block ≠ mn) (hcb : c.block < w.heap.size ∧ c.block ≠ mn) (hs : s.size ≤ 40) (ht : t.size ≤ 40) (hfd : Vf.find D.names s ≠ 0) (hn : D.names.length ≤ 1073741824) :
    Calls Try.prog 49 #[.pointer (some ⟨φ (Vf.find D.names s), 0, none⟩), .pointer (some a), .pointer (some b), .pointer (some c)] w (ClPost w p F (Vf.put D D.files (Vf.link (Vf.link D.names s 0) t (Vf.find D.names s)) D.kept D.last)) := by
  have d0 : w.cell? ⟨p, 0, none⟩ = some (.map (some mn)) := hA.row.cell 0
  have hM : Hid (MapA w.drew mn D.names.length (Vf.leads φ D.names)) := hA.now
  have hsm : s.size ≤ maxLen := by unfold maxLen; omega
  have htm : t.size ≤ maxLen := by unfold maxLen; omega
  have hnm : D.names.length < maxLen := by unfold maxLen; omega
  have hpl := hA.row.lt
  have hpm := hA.apart_row.1
  have H := Lib.hid hA
  have HF := Lib.hid hF
  have HL := Lib.hid hl
  have HFD := Lib.hid hfd
  clear hA hF hl hfd
  have HC : Hid (∀ w2 : World, w.drew.grownBy w2 (some mn) → w2.cell? a = some (.pointer (some ⟨p, 0, none⟩)) ∧ w2.cell? c = some (.string t) ∧ w2.cell? ⟨p, 0, none⟩ = some (.map (some mn))) := fun w2 hg =>
    ⟨(hg.cell_far a hab.1 (by simp; exact hab.2)).trans ha, (hg.cell_far c hcb.1 (by simp; exact hcb.2)).trans hc, (hg.cell_far ⟨p, 0, none⟩ hpl (by simp; exact fun e => hpm e.symm)).trans d0⟩
  clear hpl hpm hab hcb
  obtain ⟨g, hg⟩ : ∃ g, g = φ (Vf.find D.names s) := ⟨_, rfl⟩
  rw [← hg]
  have HG := Lib.hid hg
  clear hg
  go_enter Try.func49, Try.ntmps49
  refine wp_seq ?_
  go_still_tail 5, (by kernel_rfl)
  change wpList _ _ _ _ _ w.drew
  go_wp2_with (at_delete; refine wpList_drop _ rfl _ _ rfl mn _ _ rfl hM.out s rfl hsm ?_; intro w2 hM2 hg2; obtain ⟨q1, q2, q3⟩ := HC.out w2 hg2; have HM2 := Lib.hid (And.intro hM2 hg2); clear hM2 hg2; go_frame)
  go_still_tail 6, (by kernel_rfl)
  change wpList _ _ _ _ _ w2.drew
  have hM3 : Hid (MapA w2.drew mn D.names.length (updF (Vf.leads φ D.names) s none)) := HM2.out.1
  go_wp2_with (at_mapUpdate; refine wpList_store _ rfl _ _ _ rfl mn _ _ rfl hM3.out hnm t rfl htm g rfl ?_; intro w3 hM4 hg3; have HM4 := Lib.hid (And.intro hM4 hg3); clear hM4 hg3; go_frame)
  go_end0
  have hgr : w.drew.grownBy w3 (some mn) := by
    have h1 := HM2.out.2
    have h2 := HM4.out.2
    exact ⟨h2.os.trans h1.os, h2.tape.trans h1.tape, h2.output.trans h1.output, Nat.le_trans h1.size h2.size, fun i hi hne => (h2.block i (Nat.lt_of_lt_of_le hi h1.size) hne).trans (h1.block i hi hne)⟩
  refine names_post H.out HF.out HL.out _ (fun x hx => ?_) _ (HM4.out.1.congr fun u => ?_) hgr
  · rcases Vf.mem_link hx with h | h
    · rw [h.2]; exact live_name HFD.out
    · rcases Vf.mem_link h.1 with h | h
      · exact absurd rfl h.1
      · exact ⟨x, .inl h.1, rfl⟩
  · rw [leads_link, if_neg HFD.out, HG.out]
    unfold updF
    by_cases eu : u = t
    · rw [if_pos eu, if_pos eu]
    · rw [if_neg eu, if_neg eu, leads_link, if_pos rfl]
      rfl
end Go.Proofs.Ytdohenbicepicaa
