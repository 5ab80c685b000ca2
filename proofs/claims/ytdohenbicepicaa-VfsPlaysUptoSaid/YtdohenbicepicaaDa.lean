/-
  The given disk in the blocks F: its calls, as the program's are told.
-/
import Derived.Test.YtdohenbicepicaaLb
import Derived.Test.YtdohenbicepicaaVu
namespace Go.Proofs.Ytdohenbicepicaa
open Go.RowKit Go.Maps

namespace Vf
/-- The bounds of a disk, its files counted too. -/
def OkF (D : Dk) (c m : Nat) : Prop := OkU D c m ∧ D.files.length ≤ c
theorem done_files (D : Dk) : (done D).2.files = D.files := by unfold done; split <;> rfl
theorem OkF.mono {D : Dk} {c c' m : Nat} (h : OkF D c m) (hc : c ≤ c') : OkF D c' m := ⟨h.1.mono hc, Nat.le_trans h.2 hc⟩
theorem okF_new (m : Nat) : OkF new 0 m := ⟨okU_new m, Nat.le_refl _⟩
theorem OkF.create {D : Dk} {c m : Nat} (h : OkF D c m) (s : ByteArray) : OkF (create D s).2 (c + 1) m := by
  refine ⟨h.1.create s, ?_⟩
  have h2 := h.2
  unfold Vf.create
  split
  · show D.files.length ≤ _; omega
  · split
    · rw [done_files]; omega
    · show (D.files ++ [_]).length ≤ _
      rw [List.length_append, List.length_singleton]
      omega
theorem OkF.change {D : Dk} {c m : Nat} (h : OkF D c m) (s data : ByteArray) (sy : Bool) (hm : data.size ≤ m) : OkF (change D s data sy).2 (c + 1) m := by
  refine ⟨h.1.change s data sy hm, ?_⟩
  have h2 := h.2
  unfold Vf.change
  split
  · show D.files.length ≤ _; omega
  · split
    · show D.files.length ≤ _; omega
    · split
      · rw [done_files]; omega
      · show (D.files.modify _ _).length ≤ _
        rw [List.length_modify]
        omega
theorem OkF.rename {D : Dk} {c m : Nat} (h : OkF D c m) (s t : ByteArray) : OkF (rename D s t).2 (c + 1) m := by
  refine ⟨h.1.rename s t, ?_⟩
  have h2 := h.2
  unfold Vf.rename
  split
  · show D.files.length ≤ _; omega
  · split
    · show D.files.length ≤ _; omega
    · split
      · rw [done_files]; omega
      · show (Vf.done D).2.files.length ≤ _
        rw [done_files]; omega
theorem OkF.remove {D : Dk} {c m : Nat} (h : OkF D c m) (s : ByteArray) : OkF (remove D s).2 (c + 1) m := by
  refine ⟨h.1.remove s, ?_⟩
  have h2 := h.2
  unfold Vf.remove
  split
  · show D.files.length ≤ _; omega
  · split
    · show D.files.length ≤ _; omega
    · split
      · rw [done_files]; omega
      · show (Vf.done D).2.files.length ≤ _
        rw [done_files]; omega
theorem OkF.syncDir {D : Dk} {c m : Nat} (h : OkF D c m) : OkF (syncDir D).2 (c + 1) m := by
  refine ⟨h.1.syncDir, ?_⟩
  have h2 := h.2
  unfold Vf.syncDir
  split
  · show D.files.length ≤ _; omega
  · split
    · rw [done_files]; omega
    · show (Vf.done D).2.files.length ≤ _
      rw [done_files]; omega
theorem OkF.arm {D : Dk} {c m : Nat} (h : OkF D c m) (n e : Int) (hn : n ≤ 9223372036854775807) : OkF (arm D n e).2 c m := by
  refine ⟨h.1.arm n e hn, ?_⟩
  unfold Vf.arm
  split <;> exact h.2
theorem OkF.calm {D : Dk} {c m : Nat} (h : OkF D c m) : OkF (calm D) c m := ⟨h.1.calm, h.2⟩
theorem lose_len (files : List Fl) (loss : Nat) (t : List Lk) : ∀ k acc, (lose files loss k acc t).length ≤ acc.length + t.length := by
  induction t with
  | nil => intro k acc; simp [lose]
  | cons a t ih =>
    intro k acc
    simp only [lose]
    split
    · have := ih k acc; rw [List.length_cons]; omega
    · have := ih (if (fileAt files a.n).sure < (fileAt files a.n).data.size then k + 1 else k) (acc ++ [cut (fileAt files a.n) loss (if (fileAt files a.n).sure < (fileAt files a.n).data.size then k + 1 else k)])
      rw [List.length_append, List.length_singleton] at this
      rw [List.length_cons]
      omega
theorem OkF.restart {D : Dk} {c m : Nat} (h : OkF D c m) (loss : Int) : OkF (restart D loss).2 (c + 1) m := by
  have h1 := h.1.restart loss
  refine ⟨h1, ?_⟩
  have h2 := h1.ok.names
  have h3 := lose_len D.files (u64 loss) (pick D.kept D.names (u64 loss) 0 [] (allNames D.kept D.kept D.names)).1 (pick D.kept D.names (u64 loss) 0 [] (allNames D.kept D.kept D.names)).2 []
  have h4 : (pick D.kept D.names (u64 loss) 0 [] (allNames D.kept D.kept D.names)).1.length ≤ c + 1 := h2
  show (lose D.files (u64 loss) _ [] _).length ≤ _
  refine Nat.le_trans h3 ?_
  rw [List.length_nil]
  omega
theorem find_place {D : Dk} {c m : Nat} (h : Ok D c m) (s : ByteArray) (h0 : find D.names s ≠ 0) : place D.files (find D.names s) < D.files.length := by
  obtain ⟨x, hx, _, h2⟩ := find_mem h0
  rw [← h2]
  exact (h.nums x (.inl hx)).2.2.2
theorem find_le {D : Dk} {c m : Nat} (h : Ok D c m) (s : ByteArray) : find D.names s ≤ c := by
  by_cases h0 : find D.names s = 0
  · rw [h0]; exact Nat.zero_le _
  · obtain ⟨x, hx, _, h2⟩ := find_mem h0
    rw [← h2]
    exact Nat.le_trans (h.nums x (.inl hx)).2.1 h.last
theorem picked {D : Dk} {c m : Nat} (h : Ok D c m) (loss : Nat) : ∀ a ∈ (pick D.kept D.names loss 0 [] (allNames D.kept D.kept D.names)).1, place D.files a.n < D.files.length ∧ a.n ≤ c := by
  intro a ha
  have hk : ∀ x ∈ D.kept, x.n ≠ 0 := fun x hx => by have := (h.nums x (.inr hx)).1; omega
  have hn : ∀ x ∈ D.names, x.n ≠ 0 := fun x hx => by have := (h.nums x (.inl hx)).1; omega
  have hs := all_spec hk hn h.krise
  have hp := pick_spec D.kept D.names loss (allNames D.kept D.kept D.names) 0 [] hs.1 (fun b hb => by cases hb) List.Pairwise.nil (fun b hb => by cases hb)
  obtain ⟨h0, h1⟩ := hp.2.1 a ha
  rcases h1 with h1 | h1
  · rw [h1] at h0
    obtain ⟨x, hx, _, h2⟩ := find_mem h0
    have h3 := h.nums x (.inr hx)
    rw [h1, ← h2]
    exact ⟨h3.2.2.2, Nat.le_trans h3.2.1 h.last⟩
  · rw [h1] at h0
    obtain ⟨x, hx, _, h2⟩ := find_mem h0
    have h3 := h.nums x (.inl hx)
    rw [h1, ← h2]
    exact ⟨h3.2.2.2, Nat.le_trans h3.2.1 h.last⟩
end Vf

/-- The given disk D lies at b, in the blocks F. -/
def RA (w : World) (b : Nat) (D : Vf.Dk) (F : Nat → Prop) : Prop := ∃ vf vn vk, RefA w b vf vn vk D ∧ (∀ k, Foot b vf vn vk k → F k) ∧ (∀ k, F k → k < w.heap.size)
def RPost (w : World) (b : Nat) (F : Nat → Prop) (r : Int × Vf.Dk) (e' : Ending) (w' : World) : Prop :=
  e' = .returned (.int .i64 r.1) ∧ RA w' b r.2 (FNew F w w') ∧ KeptF F w w'
theorem RA.keep {w w' : World} {b : Nat} {D : Vf.Dk} {F : Nat → Prop} (h : RA w b D F) (e : ∀ k, F k → w'.heap[k]? = w.heap[k]?) (hs : w.heap.size ≤ w'.heap.size) : RA w' b D F := by
  obtain ⟨vf, vn, vk, hA, h1, h2⟩ := h
  exact ⟨vf, vn, vk, hA.keep fun k hk => e k (h1 k hk), h1, fun k hk => Nat.lt_of_lt_of_le (h2 k hk) hs⟩
theorem RA.post {w : World} {b : Nat} {vf vn vk : Value} {F : Nat → Prop} {r : Int × Vf.Dk} {e : Ending} {w' : World} (h1 : ∀ k, Foot b vf vn vk k → F k) (h2 : ∀ k, F k → k < w.heap.size) (hp : OpPost w b vf vn vk r e w') : RPost w b F r e w' := by
  obtain ⟨he, vf', vn', vk', hA, hK, hF⟩ := hp
  refine ⟨he, ⟨vf', vn', vk', hA, fun k hk => ?_, fun k hk => ?_⟩, hK.mono fun k _ hk => h1 k hk⟩
  · rcases Nat.lt_or_ge k w.heap.size with hlt | hge
    · exact .inl (h1 k (hF k hlt hk))
    · exact .inr ⟨hge, hA.lt k hk⟩
  · rcases hk with hk | hk
    · exact Nat.lt_of_lt_of_le (h2 k hk) hK.size
    · exact hk.2
section
variable {w : World} {b : Nat} {D : Vf.Dk} {F : Nat → Prop} {c : Nat} (h : RA w b D F) (ok : Vf.OkF D c 1048576) (hc : c ≤ 1048570)
include h ok hc
theorem RA.create (s : ByteArray) : Calls Try.prog 27 #[.pointer (some ⟨b, 0, none⟩), .string s] w (RPost w b F (Vf.create D s)) := by
  obtain ⟨vf, vn, vk, hA, h1, h2⟩ := h
  have o := ok.1.ok
  have a1 := o.steps; have a2 := o.names; have a3 := ok.2; have a4 := o.last
  exact (createR_any w b vf vn vk D s hA (by omega) o.armed (by omega) (by omega) (by omega)).mono fun _ _ hp => RA.post h1 h2 hp
theorem RA.append (s data : ByteArray) (hd : data.size ≤ 1048576) : Calls Try.prog 28 #[.pointer (some ⟨b, 0, none⟩), .string s, .string data] w (RPost w b F (Vf.append D s data)) := by
  obtain ⟨vf, vn, vk, hA, h1, h2⟩ := h
  have o := ok.1.ok
  have a1 := o.steps; have a2 := Vf.find_le o s
  exact (appendR_any w b vf vn vk D s data hA (by omega) o.armed (Vf.find_place o s) (by omega) (fun f hf => by have := (o.files f hf).1; omega) (by omega)).mono fun _ _ hp => RA.post h1 h2 hp
theorem RA.sync (s : ByteArray) : Calls Try.prog 29 #[.pointer (some ⟨b, 0, none⟩), .string s] w (RPost w b F (Vf.sync D s)) := by
  obtain ⟨vf, vn, vk, hA, h1, h2⟩ := h
  have o := ok.1.ok
  have a1 := o.steps; have a2 := Vf.find_le o s
  exact (syncR_any w b vf vn vk D s hA (by omega) o.armed (Vf.find_place o s) (by omega) (fun f hf => by have := (o.files f hf).1; omega)).mono fun _ _ hp => RA.post h1 h2 hp
theorem RA.rename (s t : ByteArray) : Calls Try.prog 30 #[.pointer (some ⟨b, 0, none⟩), .string s, .string t] w (RPost w b F (Vf.rename D s t)) := by
  obtain ⟨vf, vn, vk, hA, h1, h2⟩ := h
  have o := ok.1.ok
  have a1 := o.steps; have a2 := o.names
  exact (renameR_any w b vf vn vk D s t hA (by omega) o.armed (by omega) (fun n => by have := link_len D.names s n; omega)).mono fun _ _ hp => RA.post h1 h2 hp
theorem RA.remove (s : ByteArray) : Calls Try.prog 31 #[.pointer (some ⟨b, 0, none⟩), .string s] w (RPost w b F (Vf.remove D s)) := by
  obtain ⟨vf, vn, vk, hA, h1, h2⟩ := h
  have o := ok.1.ok
  have a1 := o.steps; have a2 := o.names
  exact (removeR_any w b vf vn vk D s hA (by omega) o.armed (by omega)).mono fun _ _ hp => RA.post h1 h2 hp
theorem RA.syncDir : Calls Try.prog 32 #[.pointer (some ⟨b, 0, none⟩)] w (RPost w b F (Vf.syncDir D)) := by
  obtain ⟨vf, vn, vk, hA, h1, h2⟩ := h
  have o := ok.1.ok
  have a1 := o.steps; have a2 := o.names
  exact (syncDirR_any w b vf vn vk D hA (by omega) o.armed (by omega)).mono fun _ _ hp => RA.post h1 h2 hp
theorem RA.restart (loss : Int) (hl : -9223372036854775808 ≤ loss ∧ loss ≤ 9223372036854775807) : Calls Try.prog 35 #[.pointer (some ⟨b, 0, none⟩), .int .i64 loss] w (RPost w b F (Vf.restart D loss)) := by
  obtain ⟨vf, vn, vk, hA, h1, h2⟩ := h
  have o := ok.1.ok
  have a1 := o.kept; have a2 := o.names; have a3 := o.last
  exact (restartR_any w b vf vn vk D loss hA (by omega) (by omega) hl (fun a ha => by have := Vf.picked o _ a ha; exact ⟨this.1, by omega⟩) (fun f hf => by obtain ⟨g1, g2, g3⟩ := o.files f hf; exact ⟨by omega, g2, by omega⟩)).mono fun _ _ hp => RA.post h1 h2 hp
theorem RA.read (s : ByteArray) : Calls Try.prog 36 #[.pointer (some ⟨b, 0, none⟩), .string s] w fun e' w' => e' = .returned (.tuple #[.string (Vf.read D s).1, .int .i64 (Vf.read D s).2]) ∧ Below w.heap.size w w' := by
  obtain ⟨vf, vn, vk, hA, h1, h2⟩ := h
  have o := ok.1.ok
  have a2 := Vf.find_le o s
  exact readR_any w b vf vn vk D s hA (Vf.find_place o s) (by omega)
theorem RA.list : Calls Try.prog 39 #[.pointer (some ⟨b, 0, none⟩)] w fun e' w' => ∃ v', e' = .returned v' ∧ OwnS w' w.heap.size v' (Vf.list D) ∧ Below w.heap.size w w' := by
  obtain ⟨vf, vn, vk, hA, h1, h2⟩ := h
  have a2 := ok.1.ok.names
  exact listR_any w b vf vn vk D hA (by omega)
end
theorem RA.arm {w : World} {b : Nat} {D : Vf.Dk} {F : Nat → Prop} (h : RA w b D F) (n e : Int) : Calls Try.prog 34 #[.pointer (some ⟨b, 0, none⟩), .int .i64 n, .int .i64 e] w (RPost w b F (Vf.arm D n e)) := by
  obtain ⟨vf, vn, vk, hA, h1, h2⟩ := h
  exact (armR_any w b vf vn vk D n e hA).mono fun _ _ hp => RA.post h1 h2 hp
end Go.Proofs.Ytdohenbicepicaa
